/-
  The walk of the statement ParseEnds over package parse's contracts: the statement itself is proved in a text of its own.
-/
import Derived.Test.YtgjdbbhfgfodlaaParseEndsM
import Derived.Test.YtgjdbbhfgfodlaaParseFill
import Derived.Deep.RegionHeld3
import Derived.Deep.RegionWith
namespace Go.Proofs.Ytgjdbbhfgfodlaa.Ends
open Go.RowKit Go.Proofs.Ytgjdbbhfgfodlaa.Str Go.Proofs.Ytgjdbbhfgfodlaa.Base Go.Proofs.Ytgjdbbhfgfodlaa.Node Go.Proofs.Ytgjdbbhfgfodlaa.Parse Go.Proofs.Ytgjdbbhfgfodlaa.Entry
open Go.Proofs.Ytgjdbbhfgfodlaa.Long (fewN)
open Go.Proofs.Ytgjdbbhfgfodlaa.Tree (oneB)

/-- What the walk asks of package entry. -/
def PutC : Prop := ∀ (n : Nd) (v : Value), v = nv n → SmallN n → ∀ w : World, Calls Try.prog 12 #[v] w fun e w' => ∃ A cap, e = .returned (.tuple #[.slice A (putE n).length cap, .bool (oneB n)]) ∧ RdL w' A cap (putE n) ∧ Stp w w'
theorem share11 {G R : Value → Value → Nat → Nat → Nat → Nat → Option Addr → Nat → Option Addr → Nat → World → Prop} {goal : Prop} (main : (∀ a b c d e f g h i j W, R a b c d e f g h i j W → G a b c d e f g h i j W) → goal)
    (fin : ∀ a b c d e f g h i j W, R a b c d e f g h i j W → G a b c d e f g h i j W) : goal := main fin
theorem zero_n (l : List UInt8) (m : Nat) (hm : l.length = m) (A : Option Addr) (c : Nat) (w : World) (ha : RdA w A c (bs l)) (hl : m < 9223372036854775808) :
    Calls Try.prog 16 #[.slice A m c] w fun e w' => e = .returned (.bool (BlockM.zeroV l)) ∧ Stp w w' := by
  subst hm
  exact Block.zero_s l A c w ha hl
theorem rinfo : (Try.prog.info? 24).map (fun i => (i.zero, i.size, i.bytes)) = some (some (.slice none 0 0), 1, 24) := by kernel_rfl
section
variable {P : Program} {ops : Array Oper} {o : Oper} {a : Act} {K : Act → World → Prop} {Q : Exit → Act → World → Prop} {E : Prop}
theorem step_app (w : World) (hgd : o.guard = none) (s x : Operand) (t : TypeId) (ho : o.op = .call { callee := .builtin .append, args := #[s, x], argTypes := #[t, t] })
    (lo : Nat) (e : TypeId) (ht : P.underlying t = some (.slice e)) (hi : (P.info? e).map (fun i => (i.zero, i.size, i.bytes)) = some (some (.slice none 0 0), 1, 24))
    (v : Value) (ls : List (List UInt8)) (hs : a.eval s = v) (h : Base.Rows w lo e v ls) {A : Option Addr} {n c : Nat} {ms : List (List UInt8)} (hx : a.eval x = .slice A n c) (hm : RdL w A c ms) (hn : ms.length = n) (hl : ls.length + n ≤ 1000000) (hlo : lo ≤ w.heap.size)
    (hK : ∀ v' w', Base.Rows w' lo e v' (ls ++ ms) → w.grownBy w' v.ownBlock → K (a.put o.dst v') w') :
    if Region.wanted o (yielded ops a.tmps) = true then Oper.wp P o a w K Q else E := by
  obtain ⟨v', w', hr', h2, h3⟩ := h.more (P := P) t o.type ht hi hm hn (by rw [hn]; omega) hlo
  rw [if_pos (by simp [Region.wanted, hgd])]
  unfold Oper.wp execOp
  simp only [ho, resolve, invoke, builtin, Sem.run_bind, Sem.run_pure, Result.andThen_ok, List.map_toArray, List.map_cons, List.map_nil, hs, hx, hr']
  exact hK v' w' h2 h3
end
theorem step_make {ops : Array Oper} {o : Oper} {a : Act} {K : Act → World → Prop} {Q : Exit → Act → World → Prop} {E : Prop} (w : World) (hgd : o.guard = none) (ho : o.op = .makeSlice 24 (.const (.int .i64 512)) (.const (.int .i64 512)))
    (hK : ∀ g w', Blk w' g 5 (Array.replicate 512 (.int .u8 0)) → Stp w w' → K (a.put o.dst (.slice (some ⟨g, 0, none⟩) 512 512)) w') :
    if Region.wanted o (yielded ops a.tmps) = true then Oper.wp Try.prog o a w K Q else E := by
  have hr := run_make_blk (P := Try.prog) w 24 5 (.int .u8 0) 1 Try.underlying24 (by kernel_rfl) rfl .i64 .i64 512 (by omega) (by unfold maxLen; omega)
  rw [if_pos (by simp [Region.wanted, hgd])]
  unfold Oper.wp execOp
  have e1 : a.eval (.const (.int .i64 512)) = .int .i64 ((512 : Nat) : Int) := rfl
  simp only [ho, e1, Sem.run_bind, Sem.run_pure, hr, Result.andThen_ok]
  exact hK _ _ (Blk.new w _ _) (Stp.alloc (Stp.refl w) _)

theorem region_any_of {P : Program} {ops : Array Oper} {Q : Exit → Act → World → Prop} {id : Nat} {a : Act} {w : World} (hm : P.follows .mixedOrders = true)
    (h : wpAny P .any ops Q ops.size (Array.replicate ops.size false) a w.drew) : (Code.region id ops true).wp P Q a w := wp_region_any hm h
set_option linter.unusedSimpArgs false in
set_option maxRecDepth 100000 in
set_option maxHeartbeats 16000000 in
theorem ends_core (I : ParseI) (PC : PutC) (n : Nd) (hn : SmallN n) (b : List UInt8) (hb : b.length = 512) (Bb : Option Addr) (db : Nat) (w : World) (hr : RdA w Bb db (bs b)) (hF : fewN n = true) (s5 vv : St) (nl k1 k2 m2 : Nat) (f2 : Int) (y1 y2 : List Evt) (zb : Bool)
    (hnl : (putE n).length = nl) (hnl2 : nl ≤ 20) (hk1 : y1.length = k1) (hk2 : y2.length = k2) (h1 : runS zeroS (putE n ++ [BlockM.noughts 512, BlockM.noughts 512]) = (s5, y1, nl + 2, 0)) (h2 : runS zeroS (putE n ++ [BlockM.noughts 512, b]) = (vv, y2, m2, f2))
    (hst : stepS s5 b = (s5, [], 17)) (hs5 : s5.phase = 5) (hsm : SmallS s5) (hz : BlockM.zeroV b = zb) (hfin : (zb = true ∧ f2 = 0 ∧ (m2 : Int) = (nl : Int) + 2) ∨ (zb = false ∧ f2 = 2 ∧ (m2 : Int) = (nl : Int) + 1)) :
    Calls Try.prog 3 #[nv n, .slice Bb 512 db] w fun e w' => e = .returned (.bool true) ∧ Stp w w' := by
  have h0 := Stp.alloc (Stp.refl w) (.cells (ncells n) 23)
  have Hd := Lib.hid (Blk.new w 23 (ncells n))
  obtain ⟨p0, p1, p2, p3, p4, p5, p6, p7⟩ := nd_cells Hd.out
  have Rb := Lib.hid (hr.keep h0)
  have HI := Lib.hid I
  unfold PutC at PC
  have HPC := Lib.hid PC
  have Hn := Lib.hid hn
  have Hb5 := Lib.hid hb
  have HF := Lib.hid hF
  have Hk1 := Lib.hid hk1
  have Hk2 := Lib.hid hk2
  have Hst := Lib.hid hst
  have Hsm := Lib.hid hsm
  have Hz := Lib.hid hz
  have Hfin := Lib.hid hfin
  have HPm : Hid (∀ x ∈ putE n, x.length = 512) := Lib.hid (BlockM.mayV_iff.1 (putE_may n))
  obtain ⟨ls, hls⟩ : ∃ ls, putE n = ls := ⟨_, rfl⟩
  rw [hls] at hnl h1 h2 HPm
  have Hls := Lib.hid hls
  have HnL := Lib.hid hnl
  have Hr1 := Lib.hid h1
  have Hr2 := Lib.hid h2
  obtain ⟨N, hN⟩ : ∃ N, nl + 2 = N := ⟨_, rfl⟩
  have HnL3 : Hid ((ls ++ [BlockM.noughts 512] ++ [b]).length = N) := Lib.hid (by simp [hnl, ← hN])
  have HnL4 : Hid ((ls ++ [BlockM.noughts 512, b]).length = N) := Lib.hid (by simp [hnl, ← hN])
  have HnL5 : Hid ((ls ++ [BlockM.noughts 512, BlockM.noughts 512]).length = N) := Lib.hid (by simp [hnl, ← hN])
  have Hlb : Hid (∀ x ∈ ls ++ [BlockM.noughts 512, b], x.length < 9223372036854775808) := Lib.hid (by
    intro x hx
    simp only [List.mem_append, List.mem_cons, List.not_mem_nil, or_false] at hx
    rcases hx with h | h | h
    · rw [HPm.out x h]; omega
    · rw [h, BlockM.noughts_length]; omega
    · rw [h, Hb5.out]; omega)
  have Hlz : Hid (∀ x ∈ ls ++ [BlockM.noughts 512, BlockM.noughts 512], x.length < 9223372036854775808) := Lib.hid (by
    intro x hx
    simp only [List.mem_append, List.mem_cons, List.not_mem_nil, or_false] at hx
    rcases hx with h | h | h
    · rw [HPm.out x h]; omega
    · rw [h, BlockM.noughts_length]; omega
    · rw [h, BlockM.noughts_length]; omega)
  have Hzv : Hid (BlockM.zerosV 2 = [BlockM.noughts 512, BlockM.noughts 512]) := Lib.hid (by rw [BlockM.zerosV_yes (by omega)]; exact BlockM.blks_nil 2)
  have g5 : (s5.phase == 5) = true := by rw [hs5]; rfl
  have HN := Lib.hid hN
  clear I PC hn hb hr hF hk1 hk2 hst hsm hz hfin hls hnl h1 h2 hs5
  go_enter Try.func3, Try.ntmps3
  go_wp2_with (first
    | (go_at_call 10; (with_reducible refine (awake_s HI.out _).mono ?_); rintro e w1 ⟨rfl, hs⟩; replace Hd := Lib.hid (Hd.out.keep hs Hd.out.lt); replace Rb := Lib.hid (Rb.out.keep hs); replace h0 := Stp.trans h0 hs; clear hs p0 p1 p2 p3 p4 p5 p6 p7; obtain ⟨p0, p1, p2, p3, p4, p5, p6, p7⟩ := nd_cells Hd.out)
    | (go_at_call 11; (with_reducible refine (Long.few_s n _).mono ?_); rintro e w2 ⟨rfl, hs⟩; rw [HF.out]; replace Hd := Lib.hid (Hd.out.keep hs Hd.out.lt); replace Rb := Lib.hid (Rb.out.keep hs); replace h0 := Stp.trans h0 hs; clear hs p0 p1 p2 p3 p4 p5 p6 p7; obtain ⟨p0, p1, p2, p3, p4, p5, p6, p7⟩ := nd_cells Hd.out)
    | (go_at_call 12; (with_reducible refine (HPC.out n _ rfl Hn.out _).mono ?_); rintro e w3 ⟨B7, d7, rfl, hr, hs⟩; rw [Hls.out, HnL.out]; rw [Hls.out] at hr; have Rls := Lib.hid hr; replace Hd := Lib.hid (Hd.out.keep hs Hd.out.lt); replace Rb := Lib.hid (Rb.out.keep hs); replace h0 := Stp.trans h0 hs; clear hs p0 p1 p2 p3 p4 p5 p6 p7; obtain ⟨p0, p1, p2, p3, p4, p5, p6, p7⟩ := nd_cells Hd.out; clear hr)
    | (go_at_call 13; (refine (Block.zeros_s 2 _).mono ?_); rintro e w4 ⟨B9, d9, rfl, hr, hs⟩; rw [Hzv.out] at hr ⊢; have Rz := Lib.hid hr; replace Rls := Lib.hid (Rls.out.keep hs); replace Hd := Lib.hid (Hd.out.keep hs Hd.out.lt); replace Rb := Lib.hid (Rb.out.keep hs); replace h0 := Stp.trans h0 hs; clear hs p0 p1 p2 p3 p4 p5 p6 p7; obtain ⟨p0, p1, p2, p3, p4, p5, p6, p7⟩ := nd_cells Hd.out; clear hr; simp only [List.length_cons, List.length_nil, Nat.zero_add, Nat.reduceAdd])
    | (at_builtin; refine Base.wpList_append_rows (P := Try.prog) rfl (.const (.slice none 0 0)) (.tmp 45) 27 rfl 24 Try.underlying27 rinfo _ rfl (Base.Rows.nil w4 w4.heap.size _) rfl Rls.out HnL.out (by simp only [List.length_nil]; have := HnL.out; omega) (Nat.le_refl _) ?_; intro v1 w5 hv1 hg1; have Hs5 := Lib.hid ((Base.Rows.nil w4 w4.heap.size 24).stp (Stp.refl w4) (Nat.le_refl _) hg1); have HR5 := Lib.hid hv1; clear hv1 hg1)
    | (at_builtin; refine Base.wpList_append_rows (P := Try.prog) rfl (.tmp 46) (.tmp 47) 27 rfl 24 Try.underlying27 rinfo _ rfl HR5.out rfl (Rz.out.keep Hs5.out) rfl (by have := HnL.out; simp; omega) Hs5.out.size ?_; intro v2 w6 hv2 hg2; have hs := HR5.out.stp Hs5.out (Nat.le_refl _) hg2; obtain ⟨A6, c6, he6, hr6⟩ := hv2.rdL; rw [List.nil_append] at he6 hr6; rw [HnL5.out] at he6; subst he6; have R6 := Lib.hid hr6; replace Rls := Lib.hid (Rls.out.keep hs); replace Hd := Lib.hid (Hd.out.keep hs Hd.out.lt); replace Rb := Lib.hid (Rb.out.keep hs); replace h0 := Stp.trans h0 hs; clear hs p0 p1 p2 p3 p4 p5 p6 p7; obtain ⟨p0, p1, p2, p3, p4, p5, p6, p7⟩ := nd_cells Hd.out; clear hv2 hg2 hr6)
    | (go_at_call 14; (with_reducible refine (HI.out.run zeroS _ zero_sv zeroS_small (ls ++ [BlockM.noughts 512, BlockM.noughts 512]) N HnL5.out (by omega) Hlz.out s5 y1 k1 (nl + 2) 0 Hr1.out Hk1.out _ _ _ R6.out).mono ?_); rintro e w7 ⟨B8, d8, rfl, -, hs⟩; have H10 := Lib.hid (Blk.new w7 32 (scells s5)); replace hs := Stp.alloc hs (.cells (scells s5) 32); replace Rls := Lib.hid (Rls.out.keep hs); replace Hd := Lib.hid (Hd.out.keep hs Hd.out.lt); replace Rb := Lib.hid (Rb.out.keep hs); replace h0 := Stp.trans h0 hs; clear hs p0 p1 p2 p3 p4 p5 p6 p7; obtain ⟨p0, p1, p2, p3, p4, p5, p6, p7⟩ := nd_cells Hd.out))
  obtain ⟨wx, hwx⟩ : ∃ wx, w7.alloc (.cells (scells s5) 32) = wx := ⟨_, rfl⟩
  obtain ⟨g10, hg10⟩ : ∃ g, w7.heap.size = g := ⟨_, rfl⟩
  change Code.wp _ _ _ _ (w7.alloc (.cells (scells s5) 32))
  rw [hwx, hg10] at H10
  rw [hwx] at h0 Rls Rb ⊢
  rw [hg10]
  have H0 := Lib.hid h0
  clear h0 hwx hg10 p0 p1 p2 p3 p4 p5 p6 p7 Hd
  refine wp_region_any (by kernel_rfl) ?_
  try (change wpAny _ _ _ _ _ _ _ (World.drew _))
  refine wpAny_take (i := 0) (v := ?v0t17) rfl (by kernel_rfl) (by kernel_rfl) (by kernel_rfl) (fun _ _ _ h => h) (Or.inl ⟨by rfl, ?hy0t17⟩) ?rest0t17
  case hy0t17 => (intro w; go_simp; try with_reducible rfl)
  try simp only [Act.put, List.setIfInBounds_toArray, List.set_cons_zero, List.set_cons_succ]
  refine wpAny_take (i := 1) (v := ?v1t18) rfl (by kernel_rfl) (by kernel_rfl) (by kernel_rfl) (fun _ _ _ h => h) (Or.inl ⟨by rfl, ?hy1t18⟩) ?rest1t18
  case hy1t18 => (intro w; go_simp; try with_reducible rfl)
  try simp only [Act.put, List.setIfInBounds_toArray, List.set_cons_zero, List.set_cons_succ]
  refine wpAny_take (i := 6) (v := ?v6t19) rfl (by kernel_rfl) (by kernel_rfl) (by kernel_rfl) (fun _ _ _ h => h) (Or.inl ⟨by rfl, ?hy6t19⟩) ?rest6t19
  case hy6t19 => (intro w; go_simp; try with_reducible rfl)
  try simp only [Act.put, List.setIfInBounds_toArray, List.set_cons_zero, List.set_cons_succ]
  refine share11 (G := ?Gh_2_3_4_5_7_8_9_15) (R := fun v57 v60 g58 g59 g62 g14 A8 c8 B9 d9 W => Hid (Stp wx W) ∧ Hid (Blk W g14 32 (scells zeroS) ∧ wx.heap.size ≤ g14)) (fun h_2_3_4_5_7_8_9_15 => ?mh_2_3_4_5_7_8_9_15) ?fh_2_3_4_5_7_8_9_15
  case mh_2_3_4_5_7_8_9_15 =>
    refine share11 (G := ?Gh_2_3_4_5_7_8_9) (R := fun v57 v60 g58 g59 g62 g14 A8 c8 B9 d9 W => Hid (Stp wx W)) (fun h_2_3_4_5_7_8_9 => ?mh_2_3_4_5_7_8_9) ?fh_2_3_4_5_7_8_9
    case mh_2_3_4_5_7_8_9 =>
      refine share11 (G := ?Gh_2_3_4_5_7_8_15) (R := fun v57 v60 g58 g59 g62 g14 A8 c8 B9 d9 W => Hid (Stp wx W) ∧ Hid (RdL W A8 c8 (ls ++ [BlockM.noughts 512, b])) ∧ Hid (Blk W g14 32 (scells zeroS) ∧ wx.heap.size ≤ g14)) (fun h_2_3_4_5_7_8_15 => ?mh_2_3_4_5_7_8_15) ?fh_2_3_4_5_7_8_15
      case mh_2_3_4_5_7_8_15 =>
        refine share11 (G := ?Gh_2_3_4_5_7_8) (R := fun v57 v60 g58 g59 g62 g14 A8 c8 B9 d9 W => Hid (Stp wx W) ∧ Hid (RdL W A8 c8 (ls ++ [BlockM.noughts 512, b]))) (fun h_2_3_4_5_7_8 => ?mh_2_3_4_5_7_8) ?fh_2_3_4_5_7_8
        case mh_2_3_4_5_7_8 =>
          refine share11 (G := ?Gh_2_3_4_5_7_15) (R := fun v57 v60 g58 g59 g62 g14 A8 c8 B9 d9 W => Hid (Stp wx W) ∧ Hid (Ro wx W v60 (ls ++ [BlockM.noughts 512])) ∧ Hid (RdL W (some ⟨g62, 0, none⟩) 1 [b]) ∧ Hid (Blk W g14 32 (scells zeroS) ∧ wx.heap.size ≤ g14)) (fun h_2_3_4_5_7_15 => ?mh_2_3_4_5_7_15) ?fh_2_3_4_5_7_15
          case mh_2_3_4_5_7_15 =>
            refine share11 (G := ?Gh_2_3_4_5_7) (R := fun v57 v60 g58 g59 g62 g14 A8 c8 B9 d9 W => Hid (Stp wx W) ∧ Hid (Ro wx W v60 (ls ++ [BlockM.noughts 512])) ∧ Hid (RdL W (some ⟨g62, 0, none⟩) 1 [b])) (fun h_2_3_4_5_7 => ?mh_2_3_4_5_7) ?fh_2_3_4_5_7
            case mh_2_3_4_5_7 =>
              refine share11 (G := ?Gh_2_3_4_5_15) (R := fun v57 v60 g58 g59 g62 g14 A8 c8 B9 d9 W => Hid (Stp wx W) ∧ Hid (Ro wx W v60 (ls ++ [BlockM.noughts 512])) ∧ Hid (Blk W g14 32 (scells zeroS) ∧ wx.heap.size ≤ g14)) (fun h_2_3_4_5_15 => ?mh_2_3_4_5_15) ?fh_2_3_4_5_15
              case mh_2_3_4_5_15 =>
                refine share11 (G := ?Gh_2_3_4_7_15) (R := fun v57 v60 g58 g59 g62 g14 A8 c8 B9 d9 W => Hid (Stp wx W) ∧ Hid (Ro wx W v57 ls) ∧ Hid (v57.ownBlock ≠ some g62) ∧ Hid (RdL W (some ⟨g59, 0, none⟩) 1 [BlockM.noughts 512]) ∧ Hid (RdL W (some ⟨g62, 0, none⟩) 1 [b]) ∧ Hid (Blk W g14 32 (scells zeroS) ∧ wx.heap.size ≤ g14)) (fun h_2_3_4_7_15 => ?mh_2_3_4_7_15) ?fh_2_3_4_7_15
                case mh_2_3_4_7_15 =>
                  refine share11 (G := ?Gh_2_3_4_5) (R := fun v57 v60 g58 g59 g62 g14 A8 c8 B9 d9 W => Hid (Stp wx W) ∧ Hid (Ro wx W v60 (ls ++ [BlockM.noughts 512]))) (fun h_2_3_4_5 => ?mh_2_3_4_5) ?fh_2_3_4_5
                  case mh_2_3_4_5 =>
                    refine share11 (G := ?Gh_2_3_4_7) (R := fun v57 v60 g58 g59 g62 g14 A8 c8 B9 d9 W => Hid (Stp wx W) ∧ Hid (Ro wx W v57 ls) ∧ Hid (v57.ownBlock ≠ some g62) ∧ Hid (RdL W (some ⟨g59, 0, none⟩) 1 [BlockM.noughts 512]) ∧ Hid (RdL W (some ⟨g62, 0, none⟩) 1 [b])) (fun h_2_3_4_7 => ?mh_2_3_4_7) ?fh_2_3_4_7
                    case mh_2_3_4_7 =>
                      refine share11 (G := ?Gh_2_3_4_15) (R := fun v57 v60 g58 g59 g62 g14 A8 c8 B9 d9 W => Hid (Stp wx W) ∧ Hid (Ro wx W v57 ls) ∧ Hid (RdL W (some ⟨g59, 0, none⟩) 1 [BlockM.noughts 512]) ∧ Hid (Blk W g14 32 (scells zeroS) ∧ wx.heap.size ≤ g14)) (fun h_2_3_4_15 => ?mh_2_3_4_15) ?fh_2_3_4_15
                      case mh_2_3_4_15 =>
                        refine share11 (G := ?Gh_2_3_7_15) (R := fun v57 v60 g58 g59 g62 g14 A8 c8 B9 d9 W => Hid (Stp wx W) ∧ Hid (Ro wx W v57 ls) ∧ Hid (v57.ownBlock ≠ some g62) ∧ Hid (Blk W g58 5 (Array.replicate 512 (.int .u8 0))) ∧ Hid (RdL W (some ⟨g62, 0, none⟩) 1 [b]) ∧ Hid (Blk W g14 32 (scells zeroS) ∧ wx.heap.size ≤ g14)) (fun h_2_3_7_15 => ?mh_2_3_7_15) ?fh_2_3_7_15
                        case mh_2_3_7_15 =>
                          refine share11 (G := ?Gh_3_4_7_15) (R := fun v57 v60 g58 g59 g62 g14 A8 c8 B9 d9 W => Hid (Stp wx W) ∧ Hid (RdL W (some ⟨g59, 0, none⟩) 1 [BlockM.noughts 512]) ∧ Hid (RdL W (some ⟨g62, 0, none⟩) 1 [b]) ∧ Hid (Blk W g14 32 (scells zeroS) ∧ wx.heap.size ≤ g14)) (fun h_3_4_7_15 => ?mh_3_4_7_15) ?fh_3_4_7_15
                          case mh_3_4_7_15 =>
                            refine share11 (G := ?Gh_2_3_4) (R := fun v57 v60 g58 g59 g62 g14 A8 c8 B9 d9 W => Hid (Stp wx W) ∧ Hid (Ro wx W v57 ls) ∧ Hid (RdL W (some ⟨g59, 0, none⟩) 1 [BlockM.noughts 512])) (fun h_2_3_4 => ?mh_2_3_4) ?fh_2_3_4
                            case mh_2_3_4 =>
                              refine share11 (G := ?Gh_2_3_7) (R := fun v57 v60 g58 g59 g62 g14 A8 c8 B9 d9 W => Hid (Stp wx W) ∧ Hid (Ro wx W v57 ls) ∧ Hid (v57.ownBlock ≠ some g62) ∧ Hid (Blk W g58 5 (Array.replicate 512 (.int .u8 0))) ∧ Hid (RdL W (some ⟨g62, 0, none⟩) 1 [b])) (fun h_2_3_7 => ?mh_2_3_7) ?fh_2_3_7
                              case mh_2_3_7 =>
                                refine share11 (G := ?Gh_2_3_15) (R := fun v57 v60 g58 g59 g62 g14 A8 c8 B9 d9 W => Hid (Stp wx W) ∧ Hid (Ro wx W v57 ls) ∧ Hid (Blk W g58 5 (Array.replicate 512 (.int .u8 0))) ∧ Hid (Blk W g14 32 (scells zeroS) ∧ wx.heap.size ≤ g14)) (fun h_2_3_15 => ?mh_2_3_15) ?fh_2_3_15
                                case mh_2_3_15 =>
                                  refine share11 (G := ?Gh_2_7_15) (R := fun v57 v60 g58 g59 g62 g14 A8 c8 B9 d9 W => Hid (Stp wx W) ∧ Hid (Ro wx W v57 ls) ∧ Hid (v57.ownBlock ≠ some g62) ∧ Hid (RdL W (some ⟨g62, 0, none⟩) 1 [b]) ∧ Hid (Blk W g14 32 (scells zeroS) ∧ wx.heap.size ≤ g14)) (fun h_2_7_15 => ?mh_2_7_15) ?fh_2_7_15
                                  case mh_2_7_15 =>
                                    refine share11 (G := ?Gh_3_4_7) (R := fun v57 v60 g58 g59 g62 g14 A8 c8 B9 d9 W => Hid (Stp wx W) ∧ Hid (RdL W (some ⟨g59, 0, none⟩) 1 [BlockM.noughts 512]) ∧ Hid (RdL W (some ⟨g62, 0, none⟩) 1 [b])) (fun h_3_4_7 => ?mh_3_4_7) ?fh_3_4_7
                                    case mh_3_4_7 =>
                                      refine share11 (G := ?Gh_3_4_15) (R := fun v57 v60 g58 g59 g62 g14 A8 c8 B9 d9 W => Hid (Stp wx W) ∧ Hid (RdL W (some ⟨g59, 0, none⟩) 1 [BlockM.noughts 512]) ∧ Hid (Blk W g14 32 (scells zeroS) ∧ wx.heap.size ≤ g14)) (fun h_3_4_15 => ?mh_3_4_15) ?fh_3_4_15
                                      case mh_3_4_15 =>
                                        refine share11 (G := ?Gh_3_7_15) (R := fun v57 v60 g58 g59 g62 g14 A8 c8 B9 d9 W => Hid (Stp wx W) ∧ Hid (Blk W g58 5 (Array.replicate 512 (.int .u8 0))) ∧ Hid (RdL W (some ⟨g62, 0, none⟩) 1 [b]) ∧ Hid (Blk W g14 32 (scells zeroS) ∧ wx.heap.size ≤ g14)) (fun h_3_7_15 => ?mh_3_7_15) ?fh_3_7_15
                                        case mh_3_7_15 =>
                                          refine share11 (G := ?Gh_2_3) (R := fun v57 v60 g58 g59 g62 g14 A8 c8 B9 d9 W => Hid (Stp wx W) ∧ Hid (Ro wx W v57 ls) ∧ Hid (Blk W g58 5 (Array.replicate 512 (.int .u8 0)))) (fun h_2_3 => ?mh_2_3) ?fh_2_3
                                          case mh_2_3 =>
                                            refine share11 (G := ?Gh_2_7) (R := fun v57 v60 g58 g59 g62 g14 A8 c8 B9 d9 W => Hid (Stp wx W) ∧ Hid (Ro wx W v57 ls) ∧ Hid (v57.ownBlock ≠ some g62) ∧ Hid (RdL W (some ⟨g62, 0, none⟩) 1 [b])) (fun h_2_7 => ?mh_2_7) ?fh_2_7
                                            case mh_2_7 =>
                                              refine share11 (G := ?Gh_2_15) (R := fun v57 v60 g58 g59 g62 g14 A8 c8 B9 d9 W => Hid (Stp wx W) ∧ Hid (Ro wx W v57 ls) ∧ Hid (Blk W g14 32 (scells zeroS) ∧ wx.heap.size ≤ g14)) (fun h_2_15 => ?mh_2_15) ?fh_2_15
                                              case mh_2_15 =>
                                                refine share11 (G := ?Gh_3_4) (R := fun v57 v60 g58 g59 g62 g14 A8 c8 B9 d9 W => Hid (Stp wx W) ∧ Hid (RdL W (some ⟨g59, 0, none⟩) 1 [BlockM.noughts 512])) (fun h_3_4 => ?mh_3_4) ?fh_3_4
                                                case mh_3_4 =>
                                                  refine share11 (G := ?Gh_3_7) (R := fun v57 v60 g58 g59 g62 g14 A8 c8 B9 d9 W => Hid (Stp wx W) ∧ Hid (Blk W g58 5 (Array.replicate 512 (.int .u8 0))) ∧ Hid (RdL W (some ⟨g62, 0, none⟩) 1 [b])) (fun h_3_7 => ?mh_3_7) ?fh_3_7
                                                  case mh_3_7 =>
                                                    refine share11 (G := ?Gh_3_15) (R := fun v57 v60 g58 g59 g62 g14 A8 c8 B9 d9 W => Hid (Stp wx W) ∧ Hid (Blk W g58 5 (Array.replicate 512 (.int .u8 0))) ∧ Hid (Blk W g14 32 (scells zeroS) ∧ wx.heap.size ≤ g14)) (fun h_3_15 => ?mh_3_15) ?fh_3_15
                                                    case mh_3_15 =>
                                                      refine share11 (G := ?Gh_7_15) (R := fun v57 v60 g58 g59 g62 g14 A8 c8 B9 d9 W => Hid (Stp wx W) ∧ Hid (RdL W (some ⟨g62, 0, none⟩) 1 [b]) ∧ Hid (Blk W g14 32 (scells zeroS) ∧ wx.heap.size ≤ g14)) (fun h_7_15 => ?mh_7_15) ?fh_7_15
                                                      case mh_7_15 =>
                                                        refine share11 (G := ?Gh_2) (R := fun v57 v60 g58 g59 g62 g14 A8 c8 B9 d9 W => Hid (Stp wx W) ∧ Hid (Ro wx W v57 ls)) (fun h_2 => ?mh_2) ?fh_2
                                                        case mh_2 =>
                                                          refine share11 (G := ?Gh_3) (R := fun v57 v60 g58 g59 g62 g14 A8 c8 B9 d9 W => Hid (Stp wx W) ∧ Hid (Blk W g58 5 (Array.replicate 512 (.int .u8 0)))) (fun h_3 => ?mh_3) ?fh_3
                                                          case mh_3 =>
                                                            refine share11 (G := ?Gh_7) (R := fun v57 v60 g58 g59 g62 g14 A8 c8 B9 d9 W => Hid (Stp wx W) ∧ Hid (RdL W (some ⟨g62, 0, none⟩) 1 [b])) (fun h_7 => ?mh_7) ?fh_7
                                                            case mh_7 =>
                                                              refine share11 (G := ?Gh_15) (R := fun v57 v60 g58 g59 g62 g14 A8 c8 B9 d9 W => Hid (Stp wx W) ∧ Hid (Blk W g14 32 (scells zeroS) ∧ wx.heap.size ≤ g14)) (fun h_15 => ?mh_15) ?fh_15
                                                              case mh_15 =>
                                                                obtain ⟨W, hW⟩ : ∃ W, wx.drew = W := ⟨_, rfl⟩
                                                                have S : Hid (Stp wx W) := Lib.hid (by rw [← hW]; exact Stp.drewN (Stp.refl wx) 1)
                                                                rw [hW]
                                                                obtain ⟨v57, v60, g58, g59, g62, g14, A8, c8, B9, d9, -⟩ : ∃ (_ _ : Value) (_ _ _ _ : Nat) (_ : Option Addr) (_ : Nat) (_ : Option Addr) (_ : Nat), True := ⟨.bool true, .bool true, 0, 0, 0, 0, none, 0, none, 0, trivial⟩
                                                                refine wpAny_ready (rs := [2, 3, 7, 15]) (by kernel_rfl) (by simp) ?_
                                                                refine AllReady.cons rfl (fun K hK => ?_) ?_
                                                                ·
                                                                  refine step_app _ rfl (.const (.slice none 0 0)) (.tmp 56) 27 rfl W.heap.size 24 Try.underlying27 rinfo (.slice none 0 0) [] rfl (Base.Rows.nil W W.heap.size 24) rfl (Rls.out.keep S.out) HnL.out (by simp only [List.length_nil]; omega) (Nat.le_refl _) ?_
                                                                  intro v57' W' hv hg
                                                                  have hs : Stp W W' := (Base.Rows.nil W W.heap.size 24).stp (Stp.refl W) (Nat.le_refl _) hg
                                                                  rw [List.nil_append] at hv
                                                                  have hsz := hs.size
                                                                  refine hK _ _ ?_
                                                                  clear hK K
                                                                  try simp only [Act.put, List.setIfInBounds_toArray, List.set_cons_zero, List.set_cons_succ]
                                                                  exact h_2 v57' v60 g58 g59 g62 g14 A8 c8 B9 d9 W' ⟨Lib.hid (Stp.trans S.out hs), Lib.hid ⟨W.heap.size, S.out.size, hsz, hv⟩⟩
                                                                refine AllReady.cons rfl (fun K hK => ?_) ?_
                                                                ·
                                                                  refine step_make _ rfl rfl ?_
                                                                  intro g W' hb' hs
                                                                  refine hK _ _ ?_
                                                                  clear hK K
                                                                  try simp only [Act.put, List.setIfInBounds_toArray, List.set_cons_zero, List.set_cons_succ]
                                                                  exact h_3 v57 v60 g g59 g62 g14 A8 c8 B9 d9 W' ⟨Lib.hid (Stp.trans S.out hs), Lib.hid hb'⟩
                                                                refine AllReady.cons rfl (fun K hK => ?_) ?_
                                                                ·
                                                                  go_simp
                                                                  refine hK _ _ ?_
                                                                  clear hK K
                                                                  try simp only [Act.put, List.setIfInBounds_toArray, List.set_cons_zero, List.set_cons_succ]
                                                                  obtain ⟨W', hW'⟩ : ∃ X, W.alloc (.cells #[(.slice Bb 512 db)] 24) = X := ⟨_, rfl⟩
                                                                  obtain ⟨g, hg⟩ : ∃ g, W.heap.size = g := ⟨_, rfl⟩
                                                                  have hs : Stp W W' := by rw [← hW']; exact Stp.alloc (Stp.refl W) _
                                                                  have hl := lit_1 (Rb.out.keep S.out) Hb5.out
                                                                  rw [hW', hg] at hl
                                                                  rw [hW', hg]
                                                                  exact h_7 v57 v60 g58 g59 g g14 A8 c8 B9 d9 W' ⟨Lib.hid (Stp.trans S.out hs), Lib.hid hl⟩
                                                                refine AllReady.cons rfl (fun K hK => ?_) ?_
                                                                ·
                                                                  go_simp
                                                                  refine hK _ _ ?_
                                                                  clear hK K
                                                                  try simp only [Act.put, List.setIfInBounds_toArray, List.set_cons_zero, List.set_cons_succ]
                                                                  obtain ⟨W', hW'⟩ : ∃ X, W.alloc (.cells (scells zeroS) 32) = X := ⟨_, rfl⟩
                                                                  obtain ⟨g, hg⟩ : ∃ g, W.heap.size = g := ⟨_, rfl⟩
                                                                  have hs : Stp W W' := by rw [← hW']; exact Stp.alloc (Stp.refl W) _
                                                                  have hbz : Blk W' g 32 (scells zeroS) := by rw [← hW', ← hg]; exact Blk.new W 32 _
                                                                  change wpAny _ _ _ _ _ _ _ (W.alloc (.cells (scells zeroS) 32))
                                                                  rw [hW', hg]
                                                                  exact h_15 v57 v60 g58 g59 g62 g A8 c8 B9 d9 W' ⟨Lib.hid (Stp.trans S.out hs), Lib.hid ⟨hbz, by rw [← hg]; exact S.out.size⟩⟩
                                                                exact AllReady.nil
                                                              case fh_15 =>
                                                                intro v57 v60 g58 g59 g62 g14 A8 c8 B9 d9 W ⟨S, a15⟩
                                                                refine wpAny_ready (rs := [2, 3, 7]) (by kernel_rfl) (by simp) ?_
                                                                refine AllReady.cons rfl (fun K hK => ?_) ?_
                                                                ·
                                                                  refine step_app _ rfl (.const (.slice none 0 0)) (.tmp 56) 27 rfl W.heap.size 24 Try.underlying27 rinfo (.slice none 0 0) [] rfl (Base.Rows.nil W W.heap.size 24) rfl (Rls.out.keep S.out) HnL.out (by simp only [List.length_nil]; omega) (Nat.le_refl _) ?_
                                                                  intro v57' W' hv hg
                                                                  have hs : Stp W W' := (Base.Rows.nil W W.heap.size 24).stp (Stp.refl W) (Nat.le_refl _) hg
                                                                  rw [List.nil_append] at hv
                                                                  have hsz := hs.size
                                                                  refine hK _ _ ?_
                                                                  clear hK K
                                                                  try simp only [Act.put, List.setIfInBounds_toArray, List.set_cons_zero, List.set_cons_succ]
                                                                  exact h_2_15 v57' v60 g58 g59 g62 g14 A8 c8 B9 d9 W' ⟨Lib.hid (Stp.trans S.out hs), Lib.hid ⟨W.heap.size, S.out.size, hsz, hv⟩, Lib.hid ⟨a15.out.1.keep hs (Blk.lt a15.out.1), a15.out.2⟩⟩
                                                                refine AllReady.cons rfl (fun K hK => ?_) ?_
                                                                ·
                                                                  refine step_make _ rfl rfl ?_
                                                                  intro g W' hb' hs
                                                                  refine hK _ _ ?_
                                                                  clear hK K
                                                                  try simp only [Act.put, List.setIfInBounds_toArray, List.set_cons_zero, List.set_cons_succ]
                                                                  exact h_3_15 v57 v60 g g59 g62 g14 A8 c8 B9 d9 W' ⟨Lib.hid (Stp.trans S.out hs), Lib.hid hb', Lib.hid ⟨a15.out.1.keep hs (Blk.lt a15.out.1), a15.out.2⟩⟩
                                                                refine AllReady.cons rfl (fun K hK => ?_) ?_
                                                                ·
                                                                  go_simp
                                                                  refine hK _ _ ?_
                                                                  clear hK K
                                                                  try simp only [Act.put, List.setIfInBounds_toArray, List.set_cons_zero, List.set_cons_succ]
                                                                  obtain ⟨W', hW'⟩ : ∃ X, W.alloc (.cells #[(.slice Bb 512 db)] 24) = X := ⟨_, rfl⟩
                                                                  obtain ⟨g, hg⟩ : ∃ g, W.heap.size = g := ⟨_, rfl⟩
                                                                  have hs : Stp W W' := by rw [← hW']; exact Stp.alloc (Stp.refl W) _
                                                                  have hl := lit_1 (Rb.out.keep S.out) Hb5.out
                                                                  rw [hW', hg] at hl
                                                                  rw [hW', hg]
                                                                  exact h_7_15 v57 v60 g58 g59 g g14 A8 c8 B9 d9 W' ⟨Lib.hid (Stp.trans S.out hs), Lib.hid hl, Lib.hid ⟨a15.out.1.keep hs (Blk.lt a15.out.1), a15.out.2⟩⟩
                                                                exact AllReady.nil
                                                            case fh_7 =>
                                                              intro v57 v60 g58 g59 g62 g14 A8 c8 B9 d9 W ⟨S, a7⟩
                                                              refine wpAny_ready (rs := [2, 3, 15]) (by kernel_rfl) (by simp) ?_
                                                              refine AllReady.cons rfl (fun K hK => ?_) ?_
                                                              ·
                                                                refine step_app _ rfl (.const (.slice none 0 0)) (.tmp 56) 27 rfl W.heap.size 24 Try.underlying27 rinfo (.slice none 0 0) [] rfl (Base.Rows.nil W W.heap.size 24) rfl (Rls.out.keep S.out) HnL.out (by simp only [List.length_nil]; omega) (Nat.le_refl _) ?_
                                                                intro v57' W' hv hg
                                                                have hs : Stp W W' := (Base.Rows.nil W W.heap.size 24).stp (Stp.refl W) (Nat.le_refl _) hg
                                                                rw [List.nil_append] at hv
                                                                have hsz := hs.size
                                                                refine hK _ _ ?_
                                                                clear hK K
                                                                try simp only [Act.put, List.setIfInBounds_toArray, List.set_cons_zero, List.set_cons_succ]
                                                                exact h_2_7 v57' v60 g58 g59 g62 g14 A8 c8 B9 d9 W' ⟨Lib.hid (Stp.trans S.out hs), Lib.hid ⟨W.heap.size, S.out.size, hsz, hv⟩, Lib.hid (Ro.new hv (rdL_lt a7.out)), Lib.hid (a7.out.keep hs)⟩
                                                              refine AllReady.cons rfl (fun K hK => ?_) ?_
                                                              ·
                                                                refine step_make _ rfl rfl ?_
                                                                intro g W' hb' hs
                                                                refine hK _ _ ?_
                                                                clear hK K
                                                                try simp only [Act.put, List.setIfInBounds_toArray, List.set_cons_zero, List.set_cons_succ]
                                                                exact h_3_7 v57 v60 g g59 g62 g14 A8 c8 B9 d9 W' ⟨Lib.hid (Stp.trans S.out hs), Lib.hid hb', Lib.hid (a7.out.keep hs)⟩
                                                              refine AllReady.cons rfl (fun K hK => ?_) ?_
                                                              ·
                                                                go_simp
                                                                refine hK _ _ ?_
                                                                clear hK K
                                                                try simp only [Act.put, List.setIfInBounds_toArray, List.set_cons_zero, List.set_cons_succ]
                                                                obtain ⟨W', hW'⟩ : ∃ X, W.alloc (.cells (scells zeroS) 32) = X := ⟨_, rfl⟩
                                                                obtain ⟨g, hg⟩ : ∃ g, W.heap.size = g := ⟨_, rfl⟩
                                                                have hs : Stp W W' := by rw [← hW']; exact Stp.alloc (Stp.refl W) _
                                                                have hbz : Blk W' g 32 (scells zeroS) := by rw [← hW', ← hg]; exact Blk.new W 32 _
                                                                change wpAny _ _ _ _ _ _ _ (W.alloc (.cells (scells zeroS) 32))
                                                                rw [hW', hg]
                                                                exact h_7_15 v57 v60 g58 g59 g62 g A8 c8 B9 d9 W' ⟨Lib.hid (Stp.trans S.out hs), Lib.hid (a7.out.keep hs), Lib.hid ⟨hbz, by rw [← hg]; exact S.out.size⟩⟩
                                                              exact AllReady.nil
                                                          case fh_3 =>
                                                            intro v57 v60 g58 g59 g62 g14 A8 c8 B9 d9 W ⟨S, a3⟩
                                                            refine wpAny_ready (rs := [2, 4, 7, 15]) (by kernel_rfl) (by simp) ?_
                                                            refine AllReady.cons rfl (fun K hK => ?_) ?_
                                                            ·
                                                              refine step_app _ rfl (.const (.slice none 0 0)) (.tmp 56) 27 rfl W.heap.size 24 Try.underlying27 rinfo (.slice none 0 0) [] rfl (Base.Rows.nil W W.heap.size 24) rfl (Rls.out.keep S.out) HnL.out (by simp only [List.length_nil]; omega) (Nat.le_refl _) ?_
                                                              intro v57' W' hv hg
                                                              have hs : Stp W W' := (Base.Rows.nil W W.heap.size 24).stp (Stp.refl W) (Nat.le_refl _) hg
                                                              rw [List.nil_append] at hv
                                                              have hsz := hs.size
                                                              refine hK _ _ ?_
                                                              clear hK K
                                                              try simp only [Act.put, List.setIfInBounds_toArray, List.set_cons_zero, List.set_cons_succ]
                                                              exact h_2_3 v57' v60 g58 g59 g62 g14 A8 c8 B9 d9 W' ⟨Lib.hid (Stp.trans S.out hs), Lib.hid ⟨W.heap.size, S.out.size, hsz, hv⟩, Lib.hid (a3.out.keep hs (Blk.lt a3.out))⟩
                                                            refine AllReady.cons rfl (fun K hK => ?_) ?_
                                                            ·
                                                              go_simp
                                                              refine hK _ _ ?_
                                                              clear hK K
                                                              try simp only [Act.put, List.setIfInBounds_toArray, List.set_cons_zero, List.set_cons_succ]
                                                              obtain ⟨W', hW'⟩ : ∃ X, W.alloc (.cells #[(.slice (some ⟨g58, 0, none⟩) 512 512)] 24) = X := ⟨_, rfl⟩
                                                              obtain ⟨g, hg⟩ : ∃ g, W.heap.size = g := ⟨_, rfl⟩
                                                              have hs : Stp W W' := by rw [← hW']; exact Stp.alloc (Stp.refl W) _
                                                              have hl := lit_1 (blk_zz a3.out) (BlockM.noughts_length 512)
                                                              rw [hW', hg] at hl
                                                              rw [hW', hg]
                                                              exact h_3_4 v57 v60 g58 g g62 g14 A8 c8 B9 d9 W' ⟨Lib.hid (Stp.trans S.out hs), Lib.hid hl⟩
                                                            refine AllReady.cons rfl (fun K hK => ?_) ?_
                                                            ·
                                                              go_simp
                                                              refine hK _ _ ?_
                                                              clear hK K
                                                              try simp only [Act.put, List.setIfInBounds_toArray, List.set_cons_zero, List.set_cons_succ]
                                                              obtain ⟨W', hW'⟩ : ∃ X, W.alloc (.cells #[(.slice Bb 512 db)] 24) = X := ⟨_, rfl⟩
                                                              obtain ⟨g, hg⟩ : ∃ g, W.heap.size = g := ⟨_, rfl⟩
                                                              have hs : Stp W W' := by rw [← hW']; exact Stp.alloc (Stp.refl W) _
                                                              have hl := lit_1 (Rb.out.keep S.out) Hb5.out
                                                              rw [hW', hg] at hl
                                                              rw [hW', hg]
                                                              exact h_3_7 v57 v60 g58 g59 g g14 A8 c8 B9 d9 W' ⟨Lib.hid (Stp.trans S.out hs), Lib.hid (a3.out.keep hs (Blk.lt a3.out)), Lib.hid hl⟩
                                                            refine AllReady.cons rfl (fun K hK => ?_) ?_
                                                            ·
                                                              go_simp
                                                              refine hK _ _ ?_
                                                              clear hK K
                                                              try simp only [Act.put, List.setIfInBounds_toArray, List.set_cons_zero, List.set_cons_succ]
                                                              obtain ⟨W', hW'⟩ : ∃ X, W.alloc (.cells (scells zeroS) 32) = X := ⟨_, rfl⟩
                                                              obtain ⟨g, hg⟩ : ∃ g, W.heap.size = g := ⟨_, rfl⟩
                                                              have hs : Stp W W' := by rw [← hW']; exact Stp.alloc (Stp.refl W) _
                                                              have hbz : Blk W' g 32 (scells zeroS) := by rw [← hW', ← hg]; exact Blk.new W 32 _
                                                              change wpAny _ _ _ _ _ _ _ (W.alloc (.cells (scells zeroS) 32))
                                                              rw [hW', hg]
                                                              exact h_3_15 v57 v60 g58 g59 g62 g A8 c8 B9 d9 W' ⟨Lib.hid (Stp.trans S.out hs), Lib.hid (a3.out.keep hs (Blk.lt a3.out)), Lib.hid ⟨hbz, by rw [← hg]; exact S.out.size⟩⟩
                                                            exact AllReady.nil
                                                        case fh_2 =>
                                                          intro v57 v60 g58 g59 g62 g14 A8 c8 B9 d9 W ⟨S, a2⟩
                                                          refine wpAny_ready (rs := [3, 7, 15]) (by kernel_rfl) (by simp) ?_
                                                          refine AllReady.cons rfl (fun K hK => ?_) ?_
                                                          ·
                                                            refine step_make _ rfl rfl ?_
                                                            intro g W' hb' hs
                                                            refine hK _ _ ?_
                                                            clear hK K
                                                            try simp only [Act.put, List.setIfInBounds_toArray, List.set_cons_zero, List.set_cons_succ]
                                                            exact h_2_3 v57 v60 g g59 g62 g14 A8 c8 B9 d9 W' ⟨Lib.hid (Stp.trans S.out hs), Lib.hid (a2.out.keep hs), Lib.hid hb'⟩
                                                          refine AllReady.cons rfl (fun K hK => ?_) ?_
                                                          ·
                                                            go_simp
                                                            refine hK _ _ ?_
                                                            clear hK K
                                                            try simp only [Act.put, List.setIfInBounds_toArray, List.set_cons_zero, List.set_cons_succ]
                                                            obtain ⟨W', hW'⟩ : ∃ X, W.alloc (.cells #[(.slice Bb 512 db)] 24) = X := ⟨_, rfl⟩
                                                            obtain ⟨g, hg⟩ : ∃ g, W.heap.size = g := ⟨_, rfl⟩
                                                            have hs : Stp W W' := by rw [← hW']; exact Stp.alloc (Stp.refl W) _
                                                            have hl := lit_1 (Rb.out.keep S.out) Hb5.out
                                                            rw [hW', hg] at hl
                                                            rw [hW', hg]
                                                            have hn := Lib.hid (show v57.ownBlock ≠ some g from fun e => by have := a2.out.lt g e; omega)
                                                            exact h_2_7 v57 v60 g58 g59 g g14 A8 c8 B9 d9 W' ⟨Lib.hid (Stp.trans S.out hs), Lib.hid (a2.out.keep hs), hn, Lib.hid hl⟩
                                                          refine AllReady.cons rfl (fun K hK => ?_) ?_
                                                          ·
                                                            go_simp
                                                            refine hK _ _ ?_
                                                            clear hK K
                                                            try simp only [Act.put, List.setIfInBounds_toArray, List.set_cons_zero, List.set_cons_succ]
                                                            obtain ⟨W', hW'⟩ : ∃ X, W.alloc (.cells (scells zeroS) 32) = X := ⟨_, rfl⟩
                                                            obtain ⟨g, hg⟩ : ∃ g, W.heap.size = g := ⟨_, rfl⟩
                                                            have hs : Stp W W' := by rw [← hW']; exact Stp.alloc (Stp.refl W) _
                                                            have hbz : Blk W' g 32 (scells zeroS) := by rw [← hW', ← hg]; exact Blk.new W 32 _
                                                            change wpAny _ _ _ _ _ _ _ (W.alloc (.cells (scells zeroS) 32))
                                                            rw [hW', hg]
                                                            exact h_2_15 v57 v60 g58 g59 g62 g A8 c8 B9 d9 W' ⟨Lib.hid (Stp.trans S.out hs), Lib.hid (a2.out.keep hs), Lib.hid ⟨hbz, by rw [← hg]; exact S.out.size⟩⟩
                                                          exact AllReady.nil
                                                      case fh_7_15 =>
                                                        intro v57 v60 g58 g59 g62 g14 A8 c8 B9 d9 W ⟨S, a7, a15⟩
                                                        refine wpAny_ready (rs := [2, 3]) (by kernel_rfl) (by simp) ?_
                                                        refine AllReady.cons rfl (fun K hK => ?_) ?_
                                                        ·
                                                          refine step_app _ rfl (.const (.slice none 0 0)) (.tmp 56) 27 rfl W.heap.size 24 Try.underlying27 rinfo (.slice none 0 0) [] rfl (Base.Rows.nil W W.heap.size 24) rfl (Rls.out.keep S.out) HnL.out (by simp only [List.length_nil]; omega) (Nat.le_refl _) ?_
                                                          intro v57' W' hv hg
                                                          have hs : Stp W W' := (Base.Rows.nil W W.heap.size 24).stp (Stp.refl W) (Nat.le_refl _) hg
                                                          rw [List.nil_append] at hv
                                                          have hsz := hs.size
                                                          refine hK _ _ ?_
                                                          clear hK K
                                                          try simp only [Act.put, List.setIfInBounds_toArray, List.set_cons_zero, List.set_cons_succ]
                                                          exact h_2_7_15 v57' v60 g58 g59 g62 g14 A8 c8 B9 d9 W' ⟨Lib.hid (Stp.trans S.out hs), Lib.hid ⟨W.heap.size, S.out.size, hsz, hv⟩, Lib.hid (Ro.new hv (rdL_lt a7.out)), Lib.hid (a7.out.keep hs), Lib.hid ⟨a15.out.1.keep hs (Blk.lt a15.out.1), a15.out.2⟩⟩
                                                        refine AllReady.cons rfl (fun K hK => ?_) ?_
                                                        ·
                                                          refine step_make _ rfl rfl ?_
                                                          intro g W' hb' hs
                                                          refine hK _ _ ?_
                                                          clear hK K
                                                          try simp only [Act.put, List.setIfInBounds_toArray, List.set_cons_zero, List.set_cons_succ]
                                                          exact h_3_7_15 v57 v60 g g59 g62 g14 A8 c8 B9 d9 W' ⟨Lib.hid (Stp.trans S.out hs), Lib.hid hb', Lib.hid (a7.out.keep hs), Lib.hid ⟨a15.out.1.keep hs (Blk.lt a15.out.1), a15.out.2⟩⟩
                                                        exact AllReady.nil
                                                    case fh_3_15 =>
                                                      intro v57 v60 g58 g59 g62 g14 A8 c8 B9 d9 W ⟨S, a3, a15⟩
                                                      refine wpAny_ready (rs := [2, 4, 7]) (by kernel_rfl) (by simp) ?_
                                                      refine AllReady.cons rfl (fun K hK => ?_) ?_
                                                      ·
                                                        refine step_app _ rfl (.const (.slice none 0 0)) (.tmp 56) 27 rfl W.heap.size 24 Try.underlying27 rinfo (.slice none 0 0) [] rfl (Base.Rows.nil W W.heap.size 24) rfl (Rls.out.keep S.out) HnL.out (by simp only [List.length_nil]; omega) (Nat.le_refl _) ?_
                                                        intro v57' W' hv hg
                                                        have hs : Stp W W' := (Base.Rows.nil W W.heap.size 24).stp (Stp.refl W) (Nat.le_refl _) hg
                                                        rw [List.nil_append] at hv
                                                        have hsz := hs.size
                                                        refine hK _ _ ?_
                                                        clear hK K
                                                        try simp only [Act.put, List.setIfInBounds_toArray, List.set_cons_zero, List.set_cons_succ]
                                                        exact h_2_3_15 v57' v60 g58 g59 g62 g14 A8 c8 B9 d9 W' ⟨Lib.hid (Stp.trans S.out hs), Lib.hid ⟨W.heap.size, S.out.size, hsz, hv⟩, Lib.hid (a3.out.keep hs (Blk.lt a3.out)), Lib.hid ⟨a15.out.1.keep hs (Blk.lt a15.out.1), a15.out.2⟩⟩
                                                      refine AllReady.cons rfl (fun K hK => ?_) ?_
                                                      ·
                                                        go_simp
                                                        refine hK _ _ ?_
                                                        clear hK K
                                                        try simp only [Act.put, List.setIfInBounds_toArray, List.set_cons_zero, List.set_cons_succ]
                                                        obtain ⟨W', hW'⟩ : ∃ X, W.alloc (.cells #[(.slice (some ⟨g58, 0, none⟩) 512 512)] 24) = X := ⟨_, rfl⟩
                                                        obtain ⟨g, hg⟩ : ∃ g, W.heap.size = g := ⟨_, rfl⟩
                                                        have hs : Stp W W' := by rw [← hW']; exact Stp.alloc (Stp.refl W) _
                                                        have hl := lit_1 (blk_zz a3.out) (BlockM.noughts_length 512)
                                                        rw [hW', hg] at hl
                                                        rw [hW', hg]
                                                        exact h_3_4_15 v57 v60 g58 g g62 g14 A8 c8 B9 d9 W' ⟨Lib.hid (Stp.trans S.out hs), Lib.hid hl, Lib.hid ⟨a15.out.1.keep hs (Blk.lt a15.out.1), a15.out.2⟩⟩
                                                      refine AllReady.cons rfl (fun K hK => ?_) ?_
                                                      ·
                                                        go_simp
                                                        refine hK _ _ ?_
                                                        clear hK K
                                                        try simp only [Act.put, List.setIfInBounds_toArray, List.set_cons_zero, List.set_cons_succ]
                                                        obtain ⟨W', hW'⟩ : ∃ X, W.alloc (.cells #[(.slice Bb 512 db)] 24) = X := ⟨_, rfl⟩
                                                        obtain ⟨g, hg⟩ : ∃ g, W.heap.size = g := ⟨_, rfl⟩
                                                        have hs : Stp W W' := by rw [← hW']; exact Stp.alloc (Stp.refl W) _
                                                        have hl := lit_1 (Rb.out.keep S.out) Hb5.out
                                                        rw [hW', hg] at hl
                                                        rw [hW', hg]
                                                        exact h_3_7_15 v57 v60 g58 g59 g g14 A8 c8 B9 d9 W' ⟨Lib.hid (Stp.trans S.out hs), Lib.hid (a3.out.keep hs (Blk.lt a3.out)), Lib.hid hl, Lib.hid ⟨a15.out.1.keep hs (Blk.lt a15.out.1), a15.out.2⟩⟩
                                                      exact AllReady.nil
                                                  case fh_3_7 =>
                                                    intro v57 v60 g58 g59 g62 g14 A8 c8 B9 d9 W ⟨S, a3, a7⟩
                                                    refine wpAny_ready (rs := [2, 4, 15]) (by kernel_rfl) (by simp) ?_
                                                    refine AllReady.cons rfl (fun K hK => ?_) ?_
                                                    ·
                                                      refine step_app _ rfl (.const (.slice none 0 0)) (.tmp 56) 27 rfl W.heap.size 24 Try.underlying27 rinfo (.slice none 0 0) [] rfl (Base.Rows.nil W W.heap.size 24) rfl (Rls.out.keep S.out) HnL.out (by simp only [List.length_nil]; omega) (Nat.le_refl _) ?_
                                                      intro v57' W' hv hg
                                                      have hs : Stp W W' := (Base.Rows.nil W W.heap.size 24).stp (Stp.refl W) (Nat.le_refl _) hg
                                                      rw [List.nil_append] at hv
                                                      have hsz := hs.size
                                                      refine hK _ _ ?_
                                                      clear hK K
                                                      try simp only [Act.put, List.setIfInBounds_toArray, List.set_cons_zero, List.set_cons_succ]
                                                      exact h_2_3_7 v57' v60 g58 g59 g62 g14 A8 c8 B9 d9 W' ⟨Lib.hid (Stp.trans S.out hs), Lib.hid ⟨W.heap.size, S.out.size, hsz, hv⟩, Lib.hid (Ro.new hv (rdL_lt a7.out)), Lib.hid (a3.out.keep hs (Blk.lt a3.out)), Lib.hid (a7.out.keep hs)⟩
                                                    refine AllReady.cons rfl (fun K hK => ?_) ?_
                                                    ·
                                                      go_simp
                                                      refine hK _ _ ?_
                                                      clear hK K
                                                      try simp only [Act.put, List.setIfInBounds_toArray, List.set_cons_zero, List.set_cons_succ]
                                                      obtain ⟨W', hW'⟩ : ∃ X, W.alloc (.cells #[(.slice (some ⟨g58, 0, none⟩) 512 512)] 24) = X := ⟨_, rfl⟩
                                                      obtain ⟨g, hg⟩ : ∃ g, W.heap.size = g := ⟨_, rfl⟩
                                                      have hs : Stp W W' := by rw [← hW']; exact Stp.alloc (Stp.refl W) _
                                                      have hl := lit_1 (blk_zz a3.out) (BlockM.noughts_length 512)
                                                      rw [hW', hg] at hl
                                                      rw [hW', hg]
                                                      exact h_3_4_7 v57 v60 g58 g g62 g14 A8 c8 B9 d9 W' ⟨Lib.hid (Stp.trans S.out hs), Lib.hid hl, Lib.hid (a7.out.keep hs)⟩
                                                    refine AllReady.cons rfl (fun K hK => ?_) ?_
                                                    ·
                                                      go_simp
                                                      refine hK _ _ ?_
                                                      clear hK K
                                                      try simp only [Act.put, List.setIfInBounds_toArray, List.set_cons_zero, List.set_cons_succ]
                                                      obtain ⟨W', hW'⟩ : ∃ X, W.alloc (.cells (scells zeroS) 32) = X := ⟨_, rfl⟩
                                                      obtain ⟨g, hg⟩ : ∃ g, W.heap.size = g := ⟨_, rfl⟩
                                                      have hs : Stp W W' := by rw [← hW']; exact Stp.alloc (Stp.refl W) _
                                                      have hbz : Blk W' g 32 (scells zeroS) := by rw [← hW', ← hg]; exact Blk.new W 32 _
                                                      change wpAny _ _ _ _ _ _ _ (W.alloc (.cells (scells zeroS) 32))
                                                      rw [hW', hg]
                                                      exact h_3_7_15 v57 v60 g58 g59 g62 g A8 c8 B9 d9 W' ⟨Lib.hid (Stp.trans S.out hs), Lib.hid (a3.out.keep hs (Blk.lt a3.out)), Lib.hid (a7.out.keep hs), Lib.hid ⟨hbz, by rw [← hg]; exact S.out.size⟩⟩
                                                    exact AllReady.nil
                                                case fh_3_4 =>
                                                  intro v57 v60 g58 g59 g62 g14 A8 c8 B9 d9 W ⟨S, a4⟩
                                                  refine wpAny_ready (rs := [2, 7, 15]) (by kernel_rfl) (by simp) ?_
                                                  refine AllReady.cons rfl (fun K hK => ?_) ?_
                                                  ·
                                                    refine step_app _ rfl (.const (.slice none 0 0)) (.tmp 56) 27 rfl W.heap.size 24 Try.underlying27 rinfo (.slice none 0 0) [] rfl (Base.Rows.nil W W.heap.size 24) rfl (Rls.out.keep S.out) HnL.out (by simp only [List.length_nil]; omega) (Nat.le_refl _) ?_
                                                    intro v57' W' hv hg
                                                    have hs : Stp W W' := (Base.Rows.nil W W.heap.size 24).stp (Stp.refl W) (Nat.le_refl _) hg
                                                    rw [List.nil_append] at hv
                                                    have hsz := hs.size
                                                    refine hK _ _ ?_
                                                    clear hK K
                                                    try simp only [Act.put, List.setIfInBounds_toArray, List.set_cons_zero, List.set_cons_succ]
                                                    exact h_2_3_4 v57' v60 g58 g59 g62 g14 A8 c8 B9 d9 W' ⟨Lib.hid (Stp.trans S.out hs), Lib.hid ⟨W.heap.size, S.out.size, hsz, hv⟩, Lib.hid (a4.out.keep hs)⟩
                                                  refine AllReady.cons rfl (fun K hK => ?_) ?_
                                                  ·
                                                    go_simp
                                                    refine hK _ _ ?_
                                                    clear hK K
                                                    try simp only [Act.put, List.setIfInBounds_toArray, List.set_cons_zero, List.set_cons_succ]
                                                    obtain ⟨W', hW'⟩ : ∃ X, W.alloc (.cells #[(.slice Bb 512 db)] 24) = X := ⟨_, rfl⟩
                                                    obtain ⟨g, hg⟩ : ∃ g, W.heap.size = g := ⟨_, rfl⟩
                                                    have hs : Stp W W' := by rw [← hW']; exact Stp.alloc (Stp.refl W) _
                                                    have hl := lit_1 (Rb.out.keep S.out) Hb5.out
                                                    rw [hW', hg] at hl
                                                    rw [hW', hg]
                                                    exact h_3_4_7 v57 v60 g58 g59 g g14 A8 c8 B9 d9 W' ⟨Lib.hid (Stp.trans S.out hs), Lib.hid (a4.out.keep hs), Lib.hid hl⟩
                                                  refine AllReady.cons rfl (fun K hK => ?_) ?_
                                                  ·
                                                    go_simp
                                                    refine hK _ _ ?_
                                                    clear hK K
                                                    try simp only [Act.put, List.setIfInBounds_toArray, List.set_cons_zero, List.set_cons_succ]
                                                    obtain ⟨W', hW'⟩ : ∃ X, W.alloc (.cells (scells zeroS) 32) = X := ⟨_, rfl⟩
                                                    obtain ⟨g, hg⟩ : ∃ g, W.heap.size = g := ⟨_, rfl⟩
                                                    have hs : Stp W W' := by rw [← hW']; exact Stp.alloc (Stp.refl W) _
                                                    have hbz : Blk W' g 32 (scells zeroS) := by rw [← hW', ← hg]; exact Blk.new W 32 _
                                                    change wpAny _ _ _ _ _ _ _ (W.alloc (.cells (scells zeroS) 32))
                                                    rw [hW', hg]
                                                    exact h_3_4_15 v57 v60 g58 g59 g62 g A8 c8 B9 d9 W' ⟨Lib.hid (Stp.trans S.out hs), Lib.hid (a4.out.keep hs), Lib.hid ⟨hbz, by rw [← hg]; exact S.out.size⟩⟩
                                                  exact AllReady.nil
                                              case fh_2_15 =>
                                                intro v57 v60 g58 g59 g62 g14 A8 c8 B9 d9 W ⟨S, a2, a15⟩
                                                refine wpAny_ready (rs := [3, 7]) (by kernel_rfl) (by simp) ?_
                                                refine AllReady.cons rfl (fun K hK => ?_) ?_
                                                ·
                                                  refine step_make _ rfl rfl ?_
                                                  intro g W' hb' hs
                                                  refine hK _ _ ?_
                                                  clear hK K
                                                  try simp only [Act.put, List.setIfInBounds_toArray, List.set_cons_zero, List.set_cons_succ]
                                                  exact h_2_3_15 v57 v60 g g59 g62 g14 A8 c8 B9 d9 W' ⟨Lib.hid (Stp.trans S.out hs), Lib.hid (a2.out.keep hs), Lib.hid hb', Lib.hid ⟨a15.out.1.keep hs (Blk.lt a15.out.1), a15.out.2⟩⟩
                                                refine AllReady.cons rfl (fun K hK => ?_) ?_
                                                ·
                                                  go_simp
                                                  refine hK _ _ ?_
                                                  clear hK K
                                                  try simp only [Act.put, List.setIfInBounds_toArray, List.set_cons_zero, List.set_cons_succ]
                                                  obtain ⟨W', hW'⟩ : ∃ X, W.alloc (.cells #[(.slice Bb 512 db)] 24) = X := ⟨_, rfl⟩
                                                  obtain ⟨g, hg⟩ : ∃ g, W.heap.size = g := ⟨_, rfl⟩
                                                  have hs : Stp W W' := by rw [← hW']; exact Stp.alloc (Stp.refl W) _
                                                  have hl := lit_1 (Rb.out.keep S.out) Hb5.out
                                                  rw [hW', hg] at hl
                                                  rw [hW', hg]
                                                  have hn := Lib.hid (show v57.ownBlock ≠ some g from fun e => by have := a2.out.lt g e; omega)
                                                  exact h_2_7_15 v57 v60 g58 g59 g g14 A8 c8 B9 d9 W' ⟨Lib.hid (Stp.trans S.out hs), Lib.hid (a2.out.keep hs), hn, Lib.hid hl, Lib.hid ⟨a15.out.1.keep hs (Blk.lt a15.out.1), a15.out.2⟩⟩
                                                exact AllReady.nil
                                            case fh_2_7 =>
                                              intro v57 v60 g58 g59 g62 g14 A8 c8 B9 d9 W ⟨S, a2, n27, a7⟩
                                              refine wpAny_ready (rs := [3, 15]) (by kernel_rfl) (by simp) ?_
                                              refine AllReady.cons rfl (fun K hK => ?_) ?_
                                              ·
                                                refine step_make _ rfl rfl ?_
                                                intro g W' hb' hs
                                                refine hK _ _ ?_
                                                clear hK K
                                                try simp only [Act.put, List.setIfInBounds_toArray, List.set_cons_zero, List.set_cons_succ]
                                                exact h_2_3_7 v57 v60 g g59 g62 g14 A8 c8 B9 d9 W' ⟨Lib.hid (Stp.trans S.out hs), Lib.hid (a2.out.keep hs), n27, Lib.hid hb', Lib.hid (a7.out.keep hs)⟩
                                              refine AllReady.cons rfl (fun K hK => ?_) ?_
                                              ·
                                                go_simp
                                                refine hK _ _ ?_
                                                clear hK K
                                                try simp only [Act.put, List.setIfInBounds_toArray, List.set_cons_zero, List.set_cons_succ]
                                                obtain ⟨W', hW'⟩ : ∃ X, W.alloc (.cells (scells zeroS) 32) = X := ⟨_, rfl⟩
                                                obtain ⟨g, hg⟩ : ∃ g, W.heap.size = g := ⟨_, rfl⟩
                                                have hs : Stp W W' := by rw [← hW']; exact Stp.alloc (Stp.refl W) _
                                                have hbz : Blk W' g 32 (scells zeroS) := by rw [← hW', ← hg]; exact Blk.new W 32 _
                                                change wpAny _ _ _ _ _ _ _ (W.alloc (.cells (scells zeroS) 32))
                                                rw [hW', hg]
                                                exact h_2_7_15 v57 v60 g58 g59 g62 g A8 c8 B9 d9 W' ⟨Lib.hid (Stp.trans S.out hs), Lib.hid (a2.out.keep hs), n27, Lib.hid (a7.out.keep hs), Lib.hid ⟨hbz, by rw [← hg]; exact S.out.size⟩⟩
                                              exact AllReady.nil
                                          case fh_2_3 =>
                                            intro v57 v60 g58 g59 g62 g14 A8 c8 B9 d9 W ⟨S, a2, a3⟩
                                            refine wpAny_ready (rs := [4, 7, 15]) (by kernel_rfl) (by simp) ?_
                                            refine AllReady.cons rfl (fun K hK => ?_) ?_
                                            ·
                                              go_simp
                                              refine hK _ _ ?_
                                              clear hK K
                                              try simp only [Act.put, List.setIfInBounds_toArray, List.set_cons_zero, List.set_cons_succ]
                                              obtain ⟨W', hW'⟩ : ∃ X, W.alloc (.cells #[(.slice (some ⟨g58, 0, none⟩) 512 512)] 24) = X := ⟨_, rfl⟩
                                              obtain ⟨g, hg⟩ : ∃ g, W.heap.size = g := ⟨_, rfl⟩
                                              have hs : Stp W W' := by rw [← hW']; exact Stp.alloc (Stp.refl W) _
                                              have hl := lit_1 (blk_zz a3.out) (BlockM.noughts_length 512)
                                              rw [hW', hg] at hl
                                              rw [hW', hg]
                                              exact h_2_3_4 v57 v60 g58 g g62 g14 A8 c8 B9 d9 W' ⟨Lib.hid (Stp.trans S.out hs), Lib.hid (a2.out.keep hs), Lib.hid hl⟩
                                            refine AllReady.cons rfl (fun K hK => ?_) ?_
                                            ·
                                              go_simp
                                              refine hK _ _ ?_
                                              clear hK K
                                              try simp only [Act.put, List.setIfInBounds_toArray, List.set_cons_zero, List.set_cons_succ]
                                              obtain ⟨W', hW'⟩ : ∃ X, W.alloc (.cells #[(.slice Bb 512 db)] 24) = X := ⟨_, rfl⟩
                                              obtain ⟨g, hg⟩ : ∃ g, W.heap.size = g := ⟨_, rfl⟩
                                              have hs : Stp W W' := by rw [← hW']; exact Stp.alloc (Stp.refl W) _
                                              have hl := lit_1 (Rb.out.keep S.out) Hb5.out
                                              rw [hW', hg] at hl
                                              rw [hW', hg]
                                              have hn := Lib.hid (show v57.ownBlock ≠ some g from fun e => by have := a2.out.lt g e; omega)
                                              exact h_2_3_7 v57 v60 g58 g59 g g14 A8 c8 B9 d9 W' ⟨Lib.hid (Stp.trans S.out hs), Lib.hid (a2.out.keep hs), hn, Lib.hid (a3.out.keep hs (Blk.lt a3.out)), Lib.hid hl⟩
                                            refine AllReady.cons rfl (fun K hK => ?_) ?_
                                            ·
                                              go_simp
                                              refine hK _ _ ?_
                                              clear hK K
                                              try simp only [Act.put, List.setIfInBounds_toArray, List.set_cons_zero, List.set_cons_succ]
                                              obtain ⟨W', hW'⟩ : ∃ X, W.alloc (.cells (scells zeroS) 32) = X := ⟨_, rfl⟩
                                              obtain ⟨g, hg⟩ : ∃ g, W.heap.size = g := ⟨_, rfl⟩
                                              have hs : Stp W W' := by rw [← hW']; exact Stp.alloc (Stp.refl W) _
                                              have hbz : Blk W' g 32 (scells zeroS) := by rw [← hW', ← hg]; exact Blk.new W 32 _
                                              change wpAny _ _ _ _ _ _ _ (W.alloc (.cells (scells zeroS) 32))
                                              rw [hW', hg]
                                              exact h_2_3_15 v57 v60 g58 g59 g62 g A8 c8 B9 d9 W' ⟨Lib.hid (Stp.trans S.out hs), Lib.hid (a2.out.keep hs), Lib.hid (a3.out.keep hs (Blk.lt a3.out)), Lib.hid ⟨hbz, by rw [← hg]; exact S.out.size⟩⟩
                                            exact AllReady.nil
                                        case fh_3_7_15 =>
                                          intro v57 v60 g58 g59 g62 g14 A8 c8 B9 d9 W ⟨S, a3, a7, a15⟩
                                          refine wpAny_ready (rs := [2, 4]) (by kernel_rfl) (by simp) ?_
                                          refine AllReady.cons rfl (fun K hK => ?_) ?_
                                          ·
                                            refine step_app _ rfl (.const (.slice none 0 0)) (.tmp 56) 27 rfl W.heap.size 24 Try.underlying27 rinfo (.slice none 0 0) [] rfl (Base.Rows.nil W W.heap.size 24) rfl (Rls.out.keep S.out) HnL.out (by simp only [List.length_nil]; omega) (Nat.le_refl _) ?_
                                            intro v57' W' hv hg
                                            have hs : Stp W W' := (Base.Rows.nil W W.heap.size 24).stp (Stp.refl W) (Nat.le_refl _) hg
                                            rw [List.nil_append] at hv
                                            have hsz := hs.size
                                            refine hK _ _ ?_
                                            clear hK K
                                            try simp only [Act.put, List.setIfInBounds_toArray, List.set_cons_zero, List.set_cons_succ]
                                            exact h_2_3_7_15 v57' v60 g58 g59 g62 g14 A8 c8 B9 d9 W' ⟨Lib.hid (Stp.trans S.out hs), Lib.hid ⟨W.heap.size, S.out.size, hsz, hv⟩, Lib.hid (Ro.new hv (rdL_lt a7.out)), Lib.hid (a3.out.keep hs (Blk.lt a3.out)), Lib.hid (a7.out.keep hs), Lib.hid ⟨a15.out.1.keep hs (Blk.lt a15.out.1), a15.out.2⟩⟩
                                          refine AllReady.cons rfl (fun K hK => ?_) ?_
                                          ·
                                            go_simp
                                            refine hK _ _ ?_
                                            clear hK K
                                            try simp only [Act.put, List.setIfInBounds_toArray, List.set_cons_zero, List.set_cons_succ]
                                            obtain ⟨W', hW'⟩ : ∃ X, W.alloc (.cells #[(.slice (some ⟨g58, 0, none⟩) 512 512)] 24) = X := ⟨_, rfl⟩
                                            obtain ⟨g, hg⟩ : ∃ g, W.heap.size = g := ⟨_, rfl⟩
                                            have hs : Stp W W' := by rw [← hW']; exact Stp.alloc (Stp.refl W) _
                                            have hl := lit_1 (blk_zz a3.out) (BlockM.noughts_length 512)
                                            rw [hW', hg] at hl
                                            rw [hW', hg]
                                            exact h_3_4_7_15 v57 v60 g58 g g62 g14 A8 c8 B9 d9 W' ⟨Lib.hid (Stp.trans S.out hs), Lib.hid hl, Lib.hid (a7.out.keep hs), Lib.hid ⟨a15.out.1.keep hs (Blk.lt a15.out.1), a15.out.2⟩⟩
                                          exact AllReady.nil
                                      case fh_3_4_15 =>
                                        intro v57 v60 g58 g59 g62 g14 A8 c8 B9 d9 W ⟨S, a4, a15⟩
                                        refine wpAny_ready (rs := [2, 7]) (by kernel_rfl) (by simp) ?_
                                        refine AllReady.cons rfl (fun K hK => ?_) ?_
                                        ·
                                          refine step_app _ rfl (.const (.slice none 0 0)) (.tmp 56) 27 rfl W.heap.size 24 Try.underlying27 rinfo (.slice none 0 0) [] rfl (Base.Rows.nil W W.heap.size 24) rfl (Rls.out.keep S.out) HnL.out (by simp only [List.length_nil]; omega) (Nat.le_refl _) ?_
                                          intro v57' W' hv hg
                                          have hs : Stp W W' := (Base.Rows.nil W W.heap.size 24).stp (Stp.refl W) (Nat.le_refl _) hg
                                          rw [List.nil_append] at hv
                                          have hsz := hs.size
                                          refine hK _ _ ?_
                                          clear hK K
                                          try simp only [Act.put, List.setIfInBounds_toArray, List.set_cons_zero, List.set_cons_succ]
                                          exact h_2_3_4_15 v57' v60 g58 g59 g62 g14 A8 c8 B9 d9 W' ⟨Lib.hid (Stp.trans S.out hs), Lib.hid ⟨W.heap.size, S.out.size, hsz, hv⟩, Lib.hid (a4.out.keep hs), Lib.hid ⟨a15.out.1.keep hs (Blk.lt a15.out.1), a15.out.2⟩⟩
                                        refine AllReady.cons rfl (fun K hK => ?_) ?_
                                        ·
                                          go_simp
                                          refine hK _ _ ?_
                                          clear hK K
                                          try simp only [Act.put, List.setIfInBounds_toArray, List.set_cons_zero, List.set_cons_succ]
                                          obtain ⟨W', hW'⟩ : ∃ X, W.alloc (.cells #[(.slice Bb 512 db)] 24) = X := ⟨_, rfl⟩
                                          obtain ⟨g, hg⟩ : ∃ g, W.heap.size = g := ⟨_, rfl⟩
                                          have hs : Stp W W' := by rw [← hW']; exact Stp.alloc (Stp.refl W) _
                                          have hl := lit_1 (Rb.out.keep S.out) Hb5.out
                                          rw [hW', hg] at hl
                                          rw [hW', hg]
                                          exact h_3_4_7_15 v57 v60 g58 g59 g g14 A8 c8 B9 d9 W' ⟨Lib.hid (Stp.trans S.out hs), Lib.hid (a4.out.keep hs), Lib.hid hl, Lib.hid ⟨a15.out.1.keep hs (Blk.lt a15.out.1), a15.out.2⟩⟩
                                        exact AllReady.nil
                                    case fh_3_4_7 =>
                                      intro v57 v60 g58 g59 g62 g14 A8 c8 B9 d9 W ⟨S, a4, a7⟩
                                      refine wpAny_ready (rs := [2, 15]) (by kernel_rfl) (by simp) ?_
                                      refine AllReady.cons rfl (fun K hK => ?_) ?_
                                      ·
                                        refine step_app _ rfl (.const (.slice none 0 0)) (.tmp 56) 27 rfl W.heap.size 24 Try.underlying27 rinfo (.slice none 0 0) [] rfl (Base.Rows.nil W W.heap.size 24) rfl (Rls.out.keep S.out) HnL.out (by simp only [List.length_nil]; omega) (Nat.le_refl _) ?_
                                        intro v57' W' hv hg
                                        have hs : Stp W W' := (Base.Rows.nil W W.heap.size 24).stp (Stp.refl W) (Nat.le_refl _) hg
                                        rw [List.nil_append] at hv
                                        have hsz := hs.size
                                        refine hK _ _ ?_
                                        clear hK K
                                        try simp only [Act.put, List.setIfInBounds_toArray, List.set_cons_zero, List.set_cons_succ]
                                        exact h_2_3_4_7 v57' v60 g58 g59 g62 g14 A8 c8 B9 d9 W' ⟨Lib.hid (Stp.trans S.out hs), Lib.hid ⟨W.heap.size, S.out.size, hsz, hv⟩, Lib.hid (Ro.new hv (rdL_lt a7.out)), Lib.hid (a4.out.keep hs), Lib.hid (a7.out.keep hs)⟩
                                      refine AllReady.cons rfl (fun K hK => ?_) ?_
                                      ·
                                        go_simp
                                        refine hK _ _ ?_
                                        clear hK K
                                        try simp only [Act.put, List.setIfInBounds_toArray, List.set_cons_zero, List.set_cons_succ]
                                        obtain ⟨W', hW'⟩ : ∃ X, W.alloc (.cells (scells zeroS) 32) = X := ⟨_, rfl⟩
                                        obtain ⟨g, hg⟩ : ∃ g, W.heap.size = g := ⟨_, rfl⟩
                                        have hs : Stp W W' := by rw [← hW']; exact Stp.alloc (Stp.refl W) _
                                        have hbz : Blk W' g 32 (scells zeroS) := by rw [← hW', ← hg]; exact Blk.new W 32 _
                                        change wpAny _ _ _ _ _ _ _ (W.alloc (.cells (scells zeroS) 32))
                                        rw [hW', hg]
                                        exact h_3_4_7_15 v57 v60 g58 g59 g62 g A8 c8 B9 d9 W' ⟨Lib.hid (Stp.trans S.out hs), Lib.hid (a4.out.keep hs), Lib.hid (a7.out.keep hs), Lib.hid ⟨hbz, by rw [← hg]; exact S.out.size⟩⟩
                                      exact AllReady.nil
                                  case fh_2_7_15 =>
                                    intro v57 v60 g58 g59 g62 g14 A8 c8 B9 d9 W ⟨S, a2, n27, a7, a15⟩
                                    refine wpAny_ready (rs := [3]) (by kernel_rfl) (by simp) ?_
                                    refine AllReady.cons rfl (fun K hK => ?_) ?_
                                    ·
                                      refine step_make _ rfl rfl ?_
                                      intro g W' hb' hs
                                      refine hK _ _ ?_
                                      clear hK K
                                      try simp only [Act.put, List.setIfInBounds_toArray, List.set_cons_zero, List.set_cons_succ]
                                      exact h_2_3_7_15 v57 v60 g g59 g62 g14 A8 c8 B9 d9 W' ⟨Lib.hid (Stp.trans S.out hs), Lib.hid (a2.out.keep hs), n27, Lib.hid hb', Lib.hid (a7.out.keep hs), Lib.hid ⟨a15.out.1.keep hs (Blk.lt a15.out.1), a15.out.2⟩⟩
                                    exact AllReady.nil
                                case fh_2_3_15 =>
                                  intro v57 v60 g58 g59 g62 g14 A8 c8 B9 d9 W ⟨S, a2, a3, a15⟩
                                  refine wpAny_ready (rs := [4, 7]) (by kernel_rfl) (by simp) ?_
                                  refine AllReady.cons rfl (fun K hK => ?_) ?_
                                  ·
                                    go_simp
                                    refine hK _ _ ?_
                                    clear hK K
                                    try simp only [Act.put, List.setIfInBounds_toArray, List.set_cons_zero, List.set_cons_succ]
                                    obtain ⟨W', hW'⟩ : ∃ X, W.alloc (.cells #[(.slice (some ⟨g58, 0, none⟩) 512 512)] 24) = X := ⟨_, rfl⟩
                                    obtain ⟨g, hg⟩ : ∃ g, W.heap.size = g := ⟨_, rfl⟩
                                    have hs : Stp W W' := by rw [← hW']; exact Stp.alloc (Stp.refl W) _
                                    have hl := lit_1 (blk_zz a3.out) (BlockM.noughts_length 512)
                                    rw [hW', hg] at hl
                                    rw [hW', hg]
                                    exact h_2_3_4_15 v57 v60 g58 g g62 g14 A8 c8 B9 d9 W' ⟨Lib.hid (Stp.trans S.out hs), Lib.hid (a2.out.keep hs), Lib.hid hl, Lib.hid ⟨a15.out.1.keep hs (Blk.lt a15.out.1), a15.out.2⟩⟩
                                  refine AllReady.cons rfl (fun K hK => ?_) ?_
                                  ·
                                    go_simp
                                    refine hK _ _ ?_
                                    clear hK K
                                    try simp only [Act.put, List.setIfInBounds_toArray, List.set_cons_zero, List.set_cons_succ]
                                    obtain ⟨W', hW'⟩ : ∃ X, W.alloc (.cells #[(.slice Bb 512 db)] 24) = X := ⟨_, rfl⟩
                                    obtain ⟨g, hg⟩ : ∃ g, W.heap.size = g := ⟨_, rfl⟩
                                    have hs : Stp W W' := by rw [← hW']; exact Stp.alloc (Stp.refl W) _
                                    have hl := lit_1 (Rb.out.keep S.out) Hb5.out
                                    rw [hW', hg] at hl
                                    rw [hW', hg]
                                    have hn := Lib.hid (show v57.ownBlock ≠ some g from fun e => by have := a2.out.lt g e; omega)
                                    exact h_2_3_7_15 v57 v60 g58 g59 g g14 A8 c8 B9 d9 W' ⟨Lib.hid (Stp.trans S.out hs), Lib.hid (a2.out.keep hs), hn, Lib.hid (a3.out.keep hs (Blk.lt a3.out)), Lib.hid hl, Lib.hid ⟨a15.out.1.keep hs (Blk.lt a15.out.1), a15.out.2⟩⟩
                                  exact AllReady.nil
                              case fh_2_3_7 =>
                                intro v57 v60 g58 g59 g62 g14 A8 c8 B9 d9 W ⟨S, a2, n27, a3, a7⟩
                                refine wpAny_ready (rs := [4, 15]) (by kernel_rfl) (by simp) ?_
                                refine AllReady.cons rfl (fun K hK => ?_) ?_
                                ·
                                  go_simp
                                  refine hK _ _ ?_
                                  clear hK K
                                  try simp only [Act.put, List.setIfInBounds_toArray, List.set_cons_zero, List.set_cons_succ]
                                  obtain ⟨W', hW'⟩ : ∃ X, W.alloc (.cells #[(.slice (some ⟨g58, 0, none⟩) 512 512)] 24) = X := ⟨_, rfl⟩
                                  obtain ⟨g, hg⟩ : ∃ g, W.heap.size = g := ⟨_, rfl⟩
                                  have hs : Stp W W' := by rw [← hW']; exact Stp.alloc (Stp.refl W) _
                                  have hl := lit_1 (blk_zz a3.out) (BlockM.noughts_length 512)
                                  rw [hW', hg] at hl
                                  rw [hW', hg]
                                  exact h_2_3_4_7 v57 v60 g58 g g62 g14 A8 c8 B9 d9 W' ⟨Lib.hid (Stp.trans S.out hs), Lib.hid (a2.out.keep hs), n27, Lib.hid hl, Lib.hid (a7.out.keep hs)⟩
                                refine AllReady.cons rfl (fun K hK => ?_) ?_
                                ·
                                  go_simp
                                  refine hK _ _ ?_
                                  clear hK K
                                  try simp only [Act.put, List.setIfInBounds_toArray, List.set_cons_zero, List.set_cons_succ]
                                  obtain ⟨W', hW'⟩ : ∃ X, W.alloc (.cells (scells zeroS) 32) = X := ⟨_, rfl⟩
                                  obtain ⟨g, hg⟩ : ∃ g, W.heap.size = g := ⟨_, rfl⟩
                                  have hs : Stp W W' := by rw [← hW']; exact Stp.alloc (Stp.refl W) _
                                  have hbz : Blk W' g 32 (scells zeroS) := by rw [← hW', ← hg]; exact Blk.new W 32 _
                                  change wpAny _ _ _ _ _ _ _ (W.alloc (.cells (scells zeroS) 32))
                                  rw [hW', hg]
                                  exact h_2_3_7_15 v57 v60 g58 g59 g62 g A8 c8 B9 d9 W' ⟨Lib.hid (Stp.trans S.out hs), Lib.hid (a2.out.keep hs), n27, Lib.hid (a3.out.keep hs (Blk.lt a3.out)), Lib.hid (a7.out.keep hs), Lib.hid ⟨hbz, by rw [← hg]; exact S.out.size⟩⟩
                                exact AllReady.nil
                            case fh_2_3_4 =>
                              intro v57 v60 g58 g59 g62 g14 A8 c8 B9 d9 W ⟨S, a2, a4⟩
                              refine wpAny_ready (rs := [5, 7, 15]) (by kernel_rfl) (by simp) ?_
                              refine AllReady.cons rfl (fun K hK => ?_) ?_
                              ·
                                obtain ⟨lo, hlo, hlo2, hrw⟩ := a2.out
                                refine step_app _ rfl (.tmp 57) (.tmp 59) 27 rfl lo 24 Try.underlying27 rinfo v57 ls rfl hrw rfl a4.out rfl (by have := HnL.out; omega) hlo2 ?_
                                intro v60' W' hv hg
                                have hsz := hg.size
                                refine hK _ _ ?_
                                clear hK K
                                try simp only [Act.put, List.setIfInBounds_toArray, List.set_cons_zero, List.set_cons_succ]
                                exact h_2_3_4_5 v57 v60' g58 g59 g62 g14 A8 c8 B9 d9 W' ⟨Lib.hid (a2.out.stp S.out hg), Lib.hid ⟨lo, hlo, Nat.le_trans hlo2 hsz, hv⟩⟩
                              refine AllReady.cons rfl (fun K hK => ?_) ?_
                              ·
                                go_simp
                                refine hK _ _ ?_
                                clear hK K
                                try simp only [Act.put, List.setIfInBounds_toArray, List.set_cons_zero, List.set_cons_succ]
                                obtain ⟨W', hW'⟩ : ∃ X, W.alloc (.cells #[(.slice Bb 512 db)] 24) = X := ⟨_, rfl⟩
                                obtain ⟨g, hg⟩ : ∃ g, W.heap.size = g := ⟨_, rfl⟩
                                have hs : Stp W W' := by rw [← hW']; exact Stp.alloc (Stp.refl W) _
                                have hl := lit_1 (Rb.out.keep S.out) Hb5.out
                                rw [hW', hg] at hl
                                rw [hW', hg]
                                have hn := Lib.hid (show v57.ownBlock ≠ some g from fun e => by have := a2.out.lt g e; omega)
                                exact h_2_3_4_7 v57 v60 g58 g59 g g14 A8 c8 B9 d9 W' ⟨Lib.hid (Stp.trans S.out hs), Lib.hid (a2.out.keep hs), hn, Lib.hid (a4.out.keep hs), Lib.hid hl⟩
                              refine AllReady.cons rfl (fun K hK => ?_) ?_
                              ·
                                go_simp
                                refine hK _ _ ?_
                                clear hK K
                                try simp only [Act.put, List.setIfInBounds_toArray, List.set_cons_zero, List.set_cons_succ]
                                obtain ⟨W', hW'⟩ : ∃ X, W.alloc (.cells (scells zeroS) 32) = X := ⟨_, rfl⟩
                                obtain ⟨g, hg⟩ : ∃ g, W.heap.size = g := ⟨_, rfl⟩
                                have hs : Stp W W' := by rw [← hW']; exact Stp.alloc (Stp.refl W) _
                                have hbz : Blk W' g 32 (scells zeroS) := by rw [← hW', ← hg]; exact Blk.new W 32 _
                                change wpAny _ _ _ _ _ _ _ (W.alloc (.cells (scells zeroS) 32))
                                rw [hW', hg]
                                exact h_2_3_4_15 v57 v60 g58 g59 g62 g A8 c8 B9 d9 W' ⟨Lib.hid (Stp.trans S.out hs), Lib.hid (a2.out.keep hs), Lib.hid (a4.out.keep hs), Lib.hid ⟨hbz, by rw [← hg]; exact S.out.size⟩⟩
                              exact AllReady.nil
                          case fh_3_4_7_15 =>
                            intro v57 v60 g58 g59 g62 g14 A8 c8 B9 d9 W ⟨S, a4, a7, a15⟩
                            refine wpAny_ready (rs := [2]) (by kernel_rfl) (by simp) ?_
                            refine AllReady.cons rfl (fun K hK => ?_) ?_
                            ·
                              refine step_app _ rfl (.const (.slice none 0 0)) (.tmp 56) 27 rfl W.heap.size 24 Try.underlying27 rinfo (.slice none 0 0) [] rfl (Base.Rows.nil W W.heap.size 24) rfl (Rls.out.keep S.out) HnL.out (by simp only [List.length_nil]; omega) (Nat.le_refl _) ?_
                              intro v57' W' hv hg
                              have hs : Stp W W' := (Base.Rows.nil W W.heap.size 24).stp (Stp.refl W) (Nat.le_refl _) hg
                              rw [List.nil_append] at hv
                              have hsz := hs.size
                              refine hK _ _ ?_
                              clear hK K
                              try simp only [Act.put, List.setIfInBounds_toArray, List.set_cons_zero, List.set_cons_succ]
                              exact h_2_3_4_7_15 v57' v60 g58 g59 g62 g14 A8 c8 B9 d9 W' ⟨Lib.hid (Stp.trans S.out hs), Lib.hid ⟨W.heap.size, S.out.size, hsz, hv⟩, Lib.hid (Ro.new hv (rdL_lt a7.out)), Lib.hid (a4.out.keep hs), Lib.hid (a7.out.keep hs), Lib.hid ⟨a15.out.1.keep hs (Blk.lt a15.out.1), a15.out.2⟩⟩
                            exact AllReady.nil
                        case fh_2_3_7_15 =>
                          intro v57 v60 g58 g59 g62 g14 A8 c8 B9 d9 W ⟨S, a2, n27, a3, a7, a15⟩
                          refine wpAny_ready (rs := [4]) (by kernel_rfl) (by simp) ?_
                          refine AllReady.cons rfl (fun K hK => ?_) ?_
                          ·
                            go_simp
                            refine hK _ _ ?_
                            clear hK K
                            try simp only [Act.put, List.setIfInBounds_toArray, List.set_cons_zero, List.set_cons_succ]
                            obtain ⟨W', hW'⟩ : ∃ X, W.alloc (.cells #[(.slice (some ⟨g58, 0, none⟩) 512 512)] 24) = X := ⟨_, rfl⟩
                            obtain ⟨g, hg⟩ : ∃ g, W.heap.size = g := ⟨_, rfl⟩
                            have hs : Stp W W' := by rw [← hW']; exact Stp.alloc (Stp.refl W) _
                            have hl := lit_1 (blk_zz a3.out) (BlockM.noughts_length 512)
                            rw [hW', hg] at hl
                            rw [hW', hg]
                            exact h_2_3_4_7_15 v57 v60 g58 g g62 g14 A8 c8 B9 d9 W' ⟨Lib.hid (Stp.trans S.out hs), Lib.hid (a2.out.keep hs), n27, Lib.hid hl, Lib.hid (a7.out.keep hs), Lib.hid ⟨a15.out.1.keep hs (Blk.lt a15.out.1), a15.out.2⟩⟩
                          exact AllReady.nil
                      case fh_2_3_4_15 =>
                        intro v57 v60 g58 g59 g62 g14 A8 c8 B9 d9 W ⟨S, a2, a4, a15⟩
                        refine wpAny_ready (rs := [5, 7]) (by kernel_rfl) (by simp) ?_
                        refine AllReady.cons rfl (fun K hK => ?_) ?_
                        ·
                          obtain ⟨lo, hlo, hlo2, hrw⟩ := a2.out
                          refine step_app _ rfl (.tmp 57) (.tmp 59) 27 rfl lo 24 Try.underlying27 rinfo v57 ls rfl hrw rfl a4.out rfl (by have := HnL.out; omega) hlo2 ?_
                          intro v60' W' hv hg
                          have hsz := hg.size
                          refine hK _ _ ?_
                          clear hK K
                          try simp only [Act.put, List.setIfInBounds_toArray, List.set_cons_zero, List.set_cons_succ]
                          exact h_2_3_4_5_15 v57 v60' g58 g59 g62 g14 A8 c8 B9 d9 W' ⟨Lib.hid (a2.out.stp S.out hg), Lib.hid ⟨lo, hlo, Nat.le_trans hlo2 hsz, hv⟩, Lib.hid ⟨blk_past a2.out a15.out.1 (by decide) hg, a15.out.2⟩⟩
                        refine AllReady.cons rfl (fun K hK => ?_) ?_
                        ·
                          go_simp
                          refine hK _ _ ?_
                          clear hK K
                          try simp only [Act.put, List.setIfInBounds_toArray, List.set_cons_zero, List.set_cons_succ]
                          obtain ⟨W', hW'⟩ : ∃ X, W.alloc (.cells #[(.slice Bb 512 db)] 24) = X := ⟨_, rfl⟩
                          obtain ⟨g, hg⟩ : ∃ g, W.heap.size = g := ⟨_, rfl⟩
                          have hs : Stp W W' := by rw [← hW']; exact Stp.alloc (Stp.refl W) _
                          have hl := lit_1 (Rb.out.keep S.out) Hb5.out
                          rw [hW', hg] at hl
                          rw [hW', hg]
                          have hn := Lib.hid (show v57.ownBlock ≠ some g from fun e => by have := a2.out.lt g e; omega)
                          exact h_2_3_4_7_15 v57 v60 g58 g59 g g14 A8 c8 B9 d9 W' ⟨Lib.hid (Stp.trans S.out hs), Lib.hid (a2.out.keep hs), hn, Lib.hid (a4.out.keep hs), Lib.hid hl, Lib.hid ⟨a15.out.1.keep hs (Blk.lt a15.out.1), a15.out.2⟩⟩
                        exact AllReady.nil
                    case fh_2_3_4_7 =>
                      intro v57 v60 g58 g59 g62 g14 A8 c8 B9 d9 W ⟨S, a2, n27, a4, a7⟩
                      refine wpAny_ready (rs := [5, 15]) (by kernel_rfl) (by simp) ?_
                      refine AllReady.cons rfl (fun K hK => ?_) ?_
                      ·
                        obtain ⟨lo, hlo, hlo2, hrw⟩ := a2.out
                        refine step_app _ rfl (.tmp 57) (.tmp 59) 27 rfl lo 24 Try.underlying27 rinfo v57 ls rfl hrw rfl a4.out rfl (by have := HnL.out; omega) hlo2 ?_
                        intro v60' W' hv hg
                        have hsz := hg.size
                        refine hK _ _ ?_
                        clear hK K
                        try simp only [Act.put, List.setIfInBounds_toArray, List.set_cons_zero, List.set_cons_succ]
                        exact h_2_3_4_5_7 v57 v60' g58 g59 g62 g14 A8 c8 B9 d9 W' ⟨Lib.hid (a2.out.stp S.out hg), Lib.hid ⟨lo, hlo, Nat.le_trans hlo2 hsz, hv⟩, Lib.hid (lit_past a2.out a7.out n27.out hg)⟩
                      refine AllReady.cons rfl (fun K hK => ?_) ?_
                      ·
                        go_simp
                        refine hK _ _ ?_
                        clear hK K
                        try simp only [Act.put, List.setIfInBounds_toArray, List.set_cons_zero, List.set_cons_succ]
                        obtain ⟨W', hW'⟩ : ∃ X, W.alloc (.cells (scells zeroS) 32) = X := ⟨_, rfl⟩
                        obtain ⟨g, hg⟩ : ∃ g, W.heap.size = g := ⟨_, rfl⟩
                        have hs : Stp W W' := by rw [← hW']; exact Stp.alloc (Stp.refl W) _
                        have hbz : Blk W' g 32 (scells zeroS) := by rw [← hW', ← hg]; exact Blk.new W 32 _
                        change wpAny _ _ _ _ _ _ _ (W.alloc (.cells (scells zeroS) 32))
                        rw [hW', hg]
                        exact h_2_3_4_7_15 v57 v60 g58 g59 g62 g A8 c8 B9 d9 W' ⟨Lib.hid (Stp.trans S.out hs), Lib.hid (a2.out.keep hs), n27, Lib.hid (a4.out.keep hs), Lib.hid (a7.out.keep hs), Lib.hid ⟨hbz, by rw [← hg]; exact S.out.size⟩⟩
                      exact AllReady.nil
                  case fh_2_3_4_5 =>
                    intro v57 v60 g58 g59 g62 g14 A8 c8 B9 d9 W ⟨S, a5⟩
                    refine wpAny_ready (rs := [7, 15]) (by kernel_rfl) (by simp) ?_
                    refine AllReady.cons rfl (fun K hK => ?_) ?_
                    ·
                      go_simp
                      refine hK _ _ ?_
                      clear hK K
                      try simp only [Act.put, List.setIfInBounds_toArray, List.set_cons_zero, List.set_cons_succ]
                      obtain ⟨W', hW'⟩ : ∃ X, W.alloc (.cells #[(.slice Bb 512 db)] 24) = X := ⟨_, rfl⟩
                      obtain ⟨g, hg⟩ : ∃ g, W.heap.size = g := ⟨_, rfl⟩
                      have hs : Stp W W' := by rw [← hW']; exact Stp.alloc (Stp.refl W) _
                      have hl := lit_1 (Rb.out.keep S.out) Hb5.out
                      rw [hW', hg] at hl
                      rw [hW', hg]
                      exact h_2_3_4_5_7 v57 v60 g58 g59 g g14 A8 c8 B9 d9 W' ⟨Lib.hid (Stp.trans S.out hs), Lib.hid (a5.out.keep hs), Lib.hid hl⟩
                    refine AllReady.cons rfl (fun K hK => ?_) ?_
                    ·
                      go_simp
                      refine hK _ _ ?_
                      clear hK K
                      try simp only [Act.put, List.setIfInBounds_toArray, List.set_cons_zero, List.set_cons_succ]
                      obtain ⟨W', hW'⟩ : ∃ X, W.alloc (.cells (scells zeroS) 32) = X := ⟨_, rfl⟩
                      obtain ⟨g, hg⟩ : ∃ g, W.heap.size = g := ⟨_, rfl⟩
                      have hs : Stp W W' := by rw [← hW']; exact Stp.alloc (Stp.refl W) _
                      have hbz : Blk W' g 32 (scells zeroS) := by rw [← hW', ← hg]; exact Blk.new W 32 _
                      change wpAny _ _ _ _ _ _ _ (W.alloc (.cells (scells zeroS) 32))
                      rw [hW', hg]
                      exact h_2_3_4_5_15 v57 v60 g58 g59 g62 g A8 c8 B9 d9 W' ⟨Lib.hid (Stp.trans S.out hs), Lib.hid (a5.out.keep hs), Lib.hid ⟨hbz, by rw [← hg]; exact S.out.size⟩⟩
                    exact AllReady.nil
                case fh_2_3_4_7_15 =>
                  intro v57 v60 g58 g59 g62 g14 A8 c8 B9 d9 W ⟨S, a2, n27, a4, a7, a15⟩
                  refine wpAny_ready (rs := [5]) (by kernel_rfl) (by simp) ?_
                  refine AllReady.cons rfl (fun K hK => ?_) ?_
                  ·
                    obtain ⟨lo, hlo, hlo2, hrw⟩ := a2.out
                    refine step_app _ rfl (.tmp 57) (.tmp 59) 27 rfl lo 24 Try.underlying27 rinfo v57 ls rfl hrw rfl a4.out rfl (by have := HnL.out; omega) hlo2 ?_
                    intro v60' W' hv hg
                    have hsz := hg.size
                    refine hK _ _ ?_
                    clear hK K
                    try simp only [Act.put, List.setIfInBounds_toArray, List.set_cons_zero, List.set_cons_succ]
                    exact h_2_3_4_5_7_15 v57 v60' g58 g59 g62 g14 A8 c8 B9 d9 W' ⟨Lib.hid (a2.out.stp S.out hg), Lib.hid ⟨lo, hlo, Nat.le_trans hlo2 hsz, hv⟩, Lib.hid (lit_past a2.out a7.out n27.out hg), Lib.hid ⟨blk_past a2.out a15.out.1 (by decide) hg, a15.out.2⟩⟩
                  exact AllReady.nil
              case fh_2_3_4_5_15 =>
                intro v57 v60 g58 g59 g62 g14 A8 c8 B9 d9 W ⟨S, a5, a15⟩
                refine wpAny_ready (rs := [7]) (by kernel_rfl) (by simp) ?_
                refine AllReady.cons rfl (fun K hK => ?_) ?_
                ·
                  go_simp
                  refine hK _ _ ?_
                  clear hK K
                  try simp only [Act.put, List.setIfInBounds_toArray, List.set_cons_zero, List.set_cons_succ]
                  obtain ⟨W', hW'⟩ : ∃ X, W.alloc (.cells #[(.slice Bb 512 db)] 24) = X := ⟨_, rfl⟩
                  obtain ⟨g, hg⟩ : ∃ g, W.heap.size = g := ⟨_, rfl⟩
                  have hs : Stp W W' := by rw [← hW']; exact Stp.alloc (Stp.refl W) _
                  have hl := lit_1 (Rb.out.keep S.out) Hb5.out
                  rw [hW', hg] at hl
                  rw [hW', hg]
                  exact h_2_3_4_5_7_15 v57 v60 g58 g59 g g14 A8 c8 B9 d9 W' ⟨Lib.hid (Stp.trans S.out hs), Lib.hid (a5.out.keep hs), Lib.hid hl, Lib.hid ⟨a15.out.1.keep hs (Blk.lt a15.out.1), a15.out.2⟩⟩
                exact AllReady.nil
            case fh_2_3_4_5_7 =>
              intro v57 v60 g58 g59 g62 g14 A8 c8 B9 d9 W ⟨S, a5, a7⟩
              refine wpAny_ready (rs := [8, 15]) (by kernel_rfl) (by simp) ?_
              refine AllReady.cons rfl (fun K hK => ?_) ?_
              ·
                obtain ⟨lo, hlo, hlo2, hrw⟩ := a5.out
                refine step_app _ rfl (.tmp 60) (.tmp 62) 27 rfl lo 24 Try.underlying27 rinfo v60 (ls ++ [BlockM.noughts 512]) rfl hrw rfl a7.out rfl (by rw [List.length_append]; have := HnL.out; simp; omega) hlo2 ?_
                intro v63 W' hv hg
                obtain ⟨A8', c8', he8, hr8⟩ := hv.rdL
                rw [List.append_assoc] at hr8
                rw [HnL3.out] at he8
                subst he8
                refine hK _ _ ?_
                clear hK K
                try simp only [Act.put, List.setIfInBounds_toArray, List.set_cons_zero, List.set_cons_succ]
                exact h_2_3_4_5_7_8 v57 v60 g58 g59 g62 g14 A8' c8' B9 d9 W' ⟨Lib.hid (a5.out.stp S.out hg), Lib.hid hr8⟩
              refine AllReady.cons rfl (fun K hK => ?_) ?_
              ·
                go_simp
                refine hK _ _ ?_
                clear hK K
                try simp only [Act.put, List.setIfInBounds_toArray, List.set_cons_zero, List.set_cons_succ]
                obtain ⟨W', hW'⟩ : ∃ X, W.alloc (.cells (scells zeroS) 32) = X := ⟨_, rfl⟩
                obtain ⟨g, hg⟩ : ∃ g, W.heap.size = g := ⟨_, rfl⟩
                have hs : Stp W W' := by rw [← hW']; exact Stp.alloc (Stp.refl W) _
                have hbz : Blk W' g 32 (scells zeroS) := by rw [← hW', ← hg]; exact Blk.new W 32 _
                change wpAny _ _ _ _ _ _ _ (W.alloc (.cells (scells zeroS) 32))
                rw [hW', hg]
                exact h_2_3_4_5_7_15 v57 v60 g58 g59 g62 g A8 c8 B9 d9 W' ⟨Lib.hid (Stp.trans S.out hs), Lib.hid (a5.out.keep hs), Lib.hid (a7.out.keep hs), Lib.hid ⟨hbz, by rw [← hg]; exact S.out.size⟩⟩
              exact AllReady.nil
          case fh_2_3_4_5_7_15 =>
            intro v57 v60 g58 g59 g62 g14 A8 c8 B9 d9 W ⟨S, a5, a7, a15⟩
            refine wpAny_ready (rs := [8]) (by kernel_rfl) (by simp) ?_
            refine AllReady.cons rfl (fun K hK => ?_) ?_
            ·
              obtain ⟨lo, hlo, hlo2, hrw⟩ := a5.out
              refine step_app _ rfl (.tmp 60) (.tmp 62) 27 rfl lo 24 Try.underlying27 rinfo v60 (ls ++ [BlockM.noughts 512]) rfl hrw rfl a7.out rfl (by rw [List.length_append]; have := HnL.out; simp; omega) hlo2 ?_
              intro v63 W' hv hg
              obtain ⟨A8', c8', he8, hr8⟩ := hv.rdL
              rw [List.append_assoc] at hr8
              rw [HnL3.out] at he8
              subst he8
              refine hK _ _ ?_
              clear hK K
              try simp only [Act.put, List.setIfInBounds_toArray, List.set_cons_zero, List.set_cons_succ]
              exact h_2_3_4_5_7_8_15 v57 v60 g58 g59 g62 g14 A8' c8' B9 d9 W' ⟨Lib.hid (a5.out.stp S.out hg), Lib.hid hr8, Lib.hid ⟨blk_past a5.out a15.out.1 (by decide) hg, a15.out.2⟩⟩
            exact AllReady.nil
        case fh_2_3_4_5_7_8 =>
          intro v57 v60 g58 g59 g62 g14 A8 c8 B9 d9 W ⟨S, a8⟩
          refine wpAny_ready (rs := [9, 15]) (by kernel_rfl) (by simp) ?_
          refine AllReady.cons rfl (fun K hK => ?_) ?_
          ·
            go_simp
            refine (HI.out.run zeroS _ zero_sv zeroS_small (ls ++ [BlockM.noughts 512, b]) N HnL4.out (by omega) Hlb.out vv y2 k2 m2 f2 Hr2.out Hk2.out _ _ _ a8.out).mono ?_
            rintro e W' ⟨B9', d9', rfl, -, hs⟩
            try dsimp only
            refine hK _ _ ?_
            clear hK K
            try simp only [Act.put, List.setIfInBounds_toArray, List.set_cons_zero, List.set_cons_succ]
            refine wpAny_take (i := 10) (v := ?v10t20) rfl (by kernel_rfl) (by kernel_rfl) (by kernel_rfl) (fun _ _ _ h => h) (Or.inl ⟨by rfl, ?hy10t20⟩) ?rest10t20
            case hy10t20 => (intro w; go_simp; try with_reducible rfl)
            try simp only [Act.put, List.setIfInBounds_toArray, List.set_cons_zero, List.set_cons_succ]
            refine wpAny_take (i := 11) (v := ?v11t21) rfl (by kernel_rfl) (by kernel_rfl) (by kernel_rfl) (fun _ _ _ h => h) (Or.inl ⟨by rfl, ?hy11t21⟩) ?rest11t21
            case hy11t21 => (intro w; go_simp; try with_reducible rfl)
            try simp only [Act.put, List.setIfInBounds_toArray, List.set_cons_zero, List.set_cons_succ]
            refine wpAny_take (i := 12) (v := ?v12t22) rfl (by kernel_rfl) (by kernel_rfl) (by kernel_rfl) (fun _ _ _ h => h) (Or.inl ⟨by rfl, ?hy12t22⟩) ?rest12t22
            case hy12t22 => (intro w; go_simp; try with_reducible rfl)
            try simp only [Act.put, List.setIfInBounds_toArray, List.set_cons_zero, List.set_cons_succ]
            refine wpAny_take (i := 13) (v := ?v13t23) rfl (by kernel_rfl) (by kernel_rfl) (by kernel_rfl) (fun _ _ _ h => h) (Or.inl ⟨by rfl, ?hy13t23⟩) ?rest13t23
            case hy13t23 => (intro w; go_simp; try with_reducible rfl)
            try simp only [Act.put, List.setIfInBounds_toArray, List.set_cons_zero, List.set_cons_succ]
            refine wpAny_take (i := 14) (v := ?v14t24) rfl (by kernel_rfl) (by kernel_rfl) (by kernel_rfl) (fun _ _ _ h => h) (Or.inl ⟨by rfl, ?hy14t24⟩) ?rest14t24
            case hy14t24 => (intro w; go_simp; try with_reducible rfl)
            try simp only [Act.put, List.setIfInBounds_toArray, List.set_cons_zero, List.set_cons_succ]
            exact h_2_3_4_5_7_8_9 v57 v60 g58 g59 g62 g14 A8 c8 B9' d9' W' (Lib.hid (Stp.trans S.out hs))
          refine AllReady.cons rfl (fun K hK => ?_) ?_
          ·
            go_simp
            refine hK _ _ ?_
            clear hK K
            try simp only [Act.put, List.setIfInBounds_toArray, List.set_cons_zero, List.set_cons_succ]
            obtain ⟨W', hW'⟩ : ∃ X, W.alloc (.cells (scells zeroS) 32) = X := ⟨_, rfl⟩
            obtain ⟨g, hg⟩ : ∃ g, W.heap.size = g := ⟨_, rfl⟩
            have hs : Stp W W' := by rw [← hW']; exact Stp.alloc (Stp.refl W) _
            have hbz : Blk W' g 32 (scells zeroS) := by rw [← hW', ← hg]; exact Blk.new W 32 _
            change wpAny _ _ _ _ _ _ _ (W.alloc (.cells (scells zeroS) 32))
            rw [hW', hg]
            exact h_2_3_4_5_7_8_15 v57 v60 g58 g59 g62 g A8 c8 B9 d9 W' ⟨Lib.hid (Stp.trans S.out hs), Lib.hid (a8.out.keep hs), Lib.hid ⟨hbz, by rw [← hg]; exact S.out.size⟩⟩
          exact AllReady.nil
      case fh_2_3_4_5_7_8_15 =>
        intro v57 v60 g58 g59 g62 g14 A8 c8 B9 d9 W ⟨S, a8, a15⟩
        refine wpAny_ready (rs := [9]) (by kernel_rfl) (by simp) ?_
        refine AllReady.cons rfl (fun K hK => ?_) ?_
        ·
          go_simp
          refine (HI.out.run zeroS _ zero_sv zeroS_small (ls ++ [BlockM.noughts 512, b]) N HnL4.out (by omega) Hlb.out vv y2 k2 m2 f2 Hr2.out Hk2.out _ _ _ a8.out).mono ?_
          rintro e W' ⟨B9', d9', rfl, -, hs⟩
          try dsimp only
          refine hK _ _ ?_
          clear hK K
          try simp only [Act.put, List.setIfInBounds_toArray, List.set_cons_zero, List.set_cons_succ]
          refine wpAny_take (i := 10) (v := ?v10t25) rfl (by kernel_rfl) (by kernel_rfl) (by kernel_rfl) (fun _ _ _ h => h) (Or.inl ⟨by rfl, ?hy10t25⟩) ?rest10t25
          case hy10t25 => (intro w; go_simp; try with_reducible rfl)
          try simp only [Act.put, List.setIfInBounds_toArray, List.set_cons_zero, List.set_cons_succ]
          refine wpAny_take (i := 11) (v := ?v11t26) rfl (by kernel_rfl) (by kernel_rfl) (by kernel_rfl) (fun _ _ _ h => h) (Or.inl ⟨by rfl, ?hy11t26⟩) ?rest11t26
          case hy11t26 => (intro w; go_simp; try with_reducible rfl)
          try simp only [Act.put, List.setIfInBounds_toArray, List.set_cons_zero, List.set_cons_succ]
          refine wpAny_take (i := 12) (v := ?v12t27) rfl (by kernel_rfl) (by kernel_rfl) (by kernel_rfl) (fun _ _ _ h => h) (Or.inl ⟨by rfl, ?hy12t27⟩) ?rest12t27
          case hy12t27 => (intro w; go_simp; try with_reducible rfl)
          try simp only [Act.put, List.setIfInBounds_toArray, List.set_cons_zero, List.set_cons_succ]
          refine wpAny_take (i := 13) (v := ?v13t28) rfl (by kernel_rfl) (by kernel_rfl) (by kernel_rfl) (fun _ _ _ h => h) (Or.inl ⟨by rfl, ?hy13t28⟩) ?rest13t28
          case hy13t28 => (intro w; go_simp; try with_reducible rfl)
          try simp only [Act.put, List.setIfInBounds_toArray, List.set_cons_zero, List.set_cons_succ]
          refine wpAny_take (i := 14) (v := ?v14t29) rfl (by kernel_rfl) (by kernel_rfl) (by kernel_rfl) (fun _ _ _ h => h) (Or.inl ⟨by rfl, ?hy14t29⟩) ?rest14t29
          case hy14t29 => (intro w; go_simp; try with_reducible rfl)
          try simp only [Act.put, List.setIfInBounds_toArray, List.set_cons_zero, List.set_cons_succ]
          exact h_2_3_4_5_7_8_9_15 v57 v60 g58 g59 g62 g14 A8 c8 B9' d9' W' ⟨Lib.hid (Stp.trans S.out hs), Lib.hid ⟨a15.out.1.keep hs (Blk.lt a15.out.1), a15.out.2⟩⟩
        exact AllReady.nil
    case fh_2_3_4_5_7_8_9 =>
      intro v57 v60 g58 g59 g62 g14 A8 c8 B9 d9 W S
      refine wpAny_ready (rs := [15]) (by kernel_rfl) (by simp) ?_
      refine AllReady.cons rfl (fun K hK => ?_) ?_
      ·
        go_simp
        refine hK _ _ ?_
        clear hK K
        try simp only [Act.put, List.setIfInBounds_toArray, List.set_cons_zero, List.set_cons_succ]
        obtain ⟨W', hW'⟩ : ∃ X, W.alloc (.cells (scells zeroS) 32) = X := ⟨_, rfl⟩
        obtain ⟨g, hg⟩ : ∃ g, W.heap.size = g := ⟨_, rfl⟩
        have hs : Stp W W' := by rw [← hW']; exact Stp.alloc (Stp.refl W) _
        have hbz : Blk W' g 32 (scells zeroS) := by rw [← hW', ← hg]; exact Blk.new W 32 _
        change wpAny _ _ _ _ _ _ _ (W.alloc (.cells (scells zeroS) 32))
        rw [hW', hg]
        exact h_2_3_4_5_7_8_9_15 v57 v60 g58 g59 g62 g A8 c8 B9 d9 W' ⟨Lib.hid (Stp.trans S.out hs), Lib.hid ⟨hbz, by rw [← hg]; exact S.out.size⟩⟩
      exact AllReady.nil
  case fh_2_3_4_5_7_8_9_15 =>
    intro v57 v60 g58 g59 g62 g14 A8 c8 B9 d9 W ⟨S, a15⟩
    obtain ⟨z0, z1, z2, z3, z4, z5, z6, z7, z8, z9, z10, z11, z12, z13⟩ := st_cells a15.out.1
    obtain ⟨y0', y1', y2', y3', y4', y5', y6', y7', y8', y9', y10', y11', y12', y13'⟩ := st_free a15.out.1
    refine wpAny_ready (rs := [16]) (by kernel_rfl) (by simp) ?_
    refine AllReady.cons rfl (fun K hK => ?_) AllReady.nil
    go_simp
    refine hK _ _ ?_
    clear hK K
    try simp only [Act.put, List.setIfInBounds_toArray, List.set_cons_zero, List.set_cons_succ]
    have H16 := Lib.hid (fills_stp (g := g14) vv S.out a15.out.2)
    refine wpAny_take (i := 17) (v := ?v17t30) rfl (by kernel_rfl) (by kernel_rfl) (by kernel_rfl) (fun _ _ _ h => h) (Or.inl ⟨by rfl, ?hy17t30⟩) ?rest17t30
    case hy17t30 => (intro w; go_simp; try with_reducible rfl)
    try simp only [Act.put, List.setIfInBounds_toArray, List.set_cons_zero, List.set_cons_succ]
    refine wpAny_take (i := 18) (v := ?v18t31) rfl (by kernel_rfl) (by kernel_rfl) (by kernel_rfl) (fun _ _ _ h => h) (Or.inl ⟨by rfl, ?hy18t31⟩) ?rest18t31
    case hy18t31 => (intro w; go_simp; try with_reducible rfl)
    try simp only [Act.put, List.setIfInBounds_toArray, List.set_cons_zero, List.set_cons_succ]
    refine wpAny_take (i := 19) (v := ?v19t32) rfl (by kernel_rfl) (by kernel_rfl) (by kernel_rfl) (fun _ _ _ h => h) (Or.inl ⟨by rfl, ?hy19t32⟩) ?rest19t32
    case hy19t32 => (intro w; go_simp; try with_reducible rfl)
    try simp only [Act.put, List.setIfInBounds_toArray, List.set_cons_zero, List.set_cons_succ]
    refine wpAny_done (by kernel_rfl) ?_ _
    have hW := H16.out
    have Ht10 := Lib.hid (H10.out.keep hW (Blk.lt H10.out))
    obtain ⟨u0, u1, u2, u3, u4, u5, u6, u7, u8, u9, u10, u11, u12, u13⟩ := st_cells Ht10.out
    have Rb9 := Lib.hid (Rb.out.keep hW)
    clear z0 z1 z2 z3 z4 z5 z6 z7 z8 z9 z10 z11 z12 z13 y0' y1' y2' y3' y4' y5' y6' y7' y8' y9' y10' y11' y12' y13' H16 S a15
    rcases Hfin.out with ⟨e1, e2, e3⟩ | ⟨e1, e2, e3⟩
    all_goals
      have Hzb := Lib.hid (Hz.out.trans e1)
      have g2 : f2 = _ := e2
      have g3 : (m2 : Int) = _ := e3
      clear e1 e2 e3
      go_wp2_with (first
        | (go_at_call 15; (with_reducible refine (HI.out.step s5 _ rfl Hsm.out b 512 Hb5.out (by omega) s5 [] 0 17 Hst.out rfl _ _ _ Rb9.out).mono ?_); rintro e w10 ⟨B10, d10, rfl, -, hs⟩; replace hW := Stp.alloc (Stp.trans hW hs) (.cells (scells s5) 32); replace Rb9 := Lib.hid (Rb.out.keep hW); clear hs u0 u1 u2 u3 u4 u5 u6 u7 u8 u9 u10 u11 u12 u13; replace Ht10 := Lib.hid (H10.out.keep hW (Blk.lt H10.out)); obtain ⟨u0, u1, u2, u3, u4, u5, u6, u7, u8, u9, u10, u11, u12, u13⟩ := st_cells Ht10.out)
        | (go_at_call 16; (with_reducible refine (zero_n b 512 Hb5.out _ _ _ Rb9.out (by omega)).mono ?_); rintro e w11 ⟨rfl, hs⟩; rw [Hzb.out]; replace hW := Stp.trans hW hs; replace Rb9 := Lib.hid (Rb9.out.keep hs); clear hs))
      all_goals go_ret
      all_goals exact ⟨rfl, Stp.trans H0.out hW⟩

set_option maxRecDepth 100000 in
set_option maxHeartbeats 4000000 in
theorem ends_out (I : ParseI) (n : Nd) (nb : Nat) (Bb : Option Addr) (db : Nat) (w : World) (F : Bool) (hF : fewN n = F) (hgo : F = false ∨ (F = true ∧ nb ≠ 512)) :
    Calls Try.prog 3 #[nv n, .slice Bb nb db] w fun e w' => e = .returned (.bool true) ∧ Stp w w' := by
  have h0 := Stp.alloc (Stp.refl w) (.cells (ncells n) 23)
  have Hd := Lib.hid (Blk.new w 23 (ncells n))
  obtain ⟨p0, p1, p2, p3, p4, p5, p6, p7⟩ := nd_cells Hd.out
  have HI := Lib.hid I
  have HF := Lib.hid hF
  clear I hF
  rcases hgo with rfl | ⟨rfl, h5⟩
  · go_enter Try.func3, Try.ntmps3
    go_wp2_with (first
      | (go_at_call 10; (with_reducible refine (awake_s HI.out _).mono ?_); rintro e w1 ⟨rfl, hs⟩; replace Hd := Lib.hid (Hd.out.keep hs Hd.out.lt); replace h0 := Stp.trans h0 hs; clear hs p0 p1 p2 p3 p4 p5 p6 p7; obtain ⟨p0, p1, p2, p3, p4, p5, p6, p7⟩ := nd_cells Hd.out)
      | (go_at_call 11; (with_reducible refine (Long.few_s n _).mono ?_); rintro e w2 ⟨rfl, hs⟩; rw [HF.out]; replace h0 := Stp.trans h0 hs; clear hs))
    all_goals go_ret
    all_goals exact ⟨rfl, h0⟩
  · have g : ((nb : Int) != 512) = true := by rw [bne_iff_ne]; omega
    clear h5
    go_enter Try.func3, Try.ntmps3
    go_wp2_with (first
      | (go_at_call 10; (with_reducible refine (awake_s HI.out _).mono ?_); rintro e w1 ⟨rfl, hs⟩; replace Hd := Lib.hid (Hd.out.keep hs Hd.out.lt); replace h0 := Stp.trans h0 hs; clear hs p0 p1 p2 p3 p4 p5 p6 p7; obtain ⟨p0, p1, p2, p3, p4, p5, p6, p7⟩ := nd_cells Hd.out)
      | (go_at_call 11; (with_reducible refine (Long.few_s n _).mono ?_); rintro e w2 ⟨rfl, hs⟩; rw [HF.out]; replace h0 := Stp.trans h0 hs; clear hs))
    all_goals go_ret
    all_goals exact ⟨rfl, h0⟩
/-- ParseEnds, at any arguments. -/
theorem ends_s (I : ParseI) (PC : PutC) (n : Nd) (hn : SmallN n) (b : List UInt8) (nb : Nat) (hnb : b.length = nb) (hnb2 : nb < 9223372036854775808) (Bb : Option Addr) (db : Nat) (w : World) (hr : RdA w Bb db (bs b)) :
    Calls Try.prog 3 #[nv n, .slice Bb nb db] w fun e w' => e = .returned (.bool true) ∧ Stp w w' := by
  cases hF : fewN n
  · exact ends_out I n nb Bb db w _ hF (.inl rfl)
  · by_cases h5 : nb = 512
    · subst h5
      obtain ⟨⟨y1, h1⟩, ⟨y2, h2⟩, h3⟩ := ends_facts n b hnb
      have hsm : SmallS (phS 5) := phS_small
      cases hz : BlockM.zeroV b
      · rw [hz] at h2
        simp only [Bool.false_eq_true, if_false] at h2
        exact ends_core I PC n hn b hnb Bb db w hr hF (phS 5) (phS 4) _ _ _ _ 2 y1 y2 false rfl (put_small n) rfl rfl h1 h2 h3 rfl hsm hz (.inr ⟨rfl, rfl, by omega⟩)
      · rw [hz] at h2
        simp only [if_true] at h2
        exact ends_core I PC n hn b hnb Bb db w hr hF (phS 5) (phS 5) _ _ _ _ 0 y1 y2 true rfl (put_small n) rfl rfl h1 h2 h3 rfl hsm hz (.inl ⟨rfl, rfl, by omega⟩)
    · exact ends_out I n nb Bb db w _ hF (.inr ⟨rfl, h5⟩)
theorem ends_any (I : ParseI) (PC : PutC) (n : Nd) (hn : SmallN n) (b : List UInt8) (v : Value) (w : World) (hv : Rd w w.heap.size v (bs b)) (hl : b.length < 9223372036854775808) :
    Calls Try.prog 3 #[nv n, v] w fun e w' => e = .returned (.bool true) ∧ Stp w w' := by
  obtain ⟨A, c, rfl, hA⟩ := RdA.of hv
  rw [bs_length]
  exact ends_s I PC n hn b _ rfl hl A c w hA
end Go.Proofs.Ytgjdbbhfgfodlaa.Ends
