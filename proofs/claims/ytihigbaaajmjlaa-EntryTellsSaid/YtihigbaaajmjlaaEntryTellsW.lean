/-
  The walk of EntryTells: no statement is proved here.
-/
import Derived.Test.YtihigbaaajmjlaaEntryRef
import Derived.Test.YtihigbaaajmjlaaEntryK2
import Derived.Test.YtihigbaaajmjlaaHeadEq
import Derived.Deep.RegionHeld3
namespace Go.Proofs.Ytihigbaaajmjlaa.Entry
open Go.RowKit Go.Proofs.Ytihigbaaajmjlaa.Str Go.Proofs.Ytihigbaaajmjlaa.Base Go.Proofs.Ytihigbaaajmjlaa.Node Go.Proofs.Ytihigbaaajmjlaa.Head Go.Proofs.Ytihigbaaajmjlaa.Long
open Go.Proofs.Ytihigbaaajmjlaa.Tree (oneB)

theorem rsame_t (ls : List L) (A B : Option Addr) (n c d : Nat) (w : World) (ha : RdL w A c ls) (hb : RdL w B d ls) (hn : ls.length = n) (hl : n ≤ 1000000) :
    Calls Try.prog 15 #[.slice A n c, .slice B n d] w fun e w' => e = .returned (.bool true) ∧ Stp w w' := by
  subst hn
  refine (Block.rsame_s ls ls A B c d w ha hb (by omega) (by omega)).mono ?_
  rintro e w' ⟨rfl, h⟩
  exact ⟨by simp, h⟩
theorem putE_small (n : Nd) : (putE n).length ≤ 20 := by
  cases h : oneB n
  · rw [putE_no h]; simp
  · have h8 : BlockM.manyN n.data.length ≤ 8 := BlockM.manyN_small (by have := (oneF h).data; omega)
    rw [putE_length h, ahead_length h]
    split <;> split <;> omega

set_option maxRecDepth 100000 in
set_option linter.unusedSimpArgs false in
set_option maxHeartbeats 8000000 in
theorem tells_s (n : Nd) (hn : SmallN n) (w : World) :
    Calls Try.prog 3 #[nv n] w fun e w' => e = .returned (.bool true) ∧ Below w.heap.size w w' := by
  have h0 := Stp.alloc (Stp.refl w) (.cells (ncells n) 23)
  have Hn := Lib.hid hn
  have Hb := Lib.hid (Blk.new w 23 (ncells n))
  obtain ⟨q0, q1, q2, q3, q4, q5, q6, q7⟩ := nd_cells Hb.out
  obtain ⟨fw, hf⟩ : ∃ b, fewN n = b := ⟨_, rfl⟩
  obtain ⟨H, hH⟩ : ∃ x, headV n = x := ⟨_, rfl⟩
  obtain ⟨O, hO⟩ : ∃ x, oneB n = x := ⟨_, rfl⟩
  obtain ⟨P, hP⟩ : ∃ x, putE n = x := ⟨_, rfl⟩
  have hPs := putE_small n
  rw [hP] at hPs
  obtain ⟨N, hN⟩ : ∃ x, P.length = x := ⟨_, rfl⟩
  rw [hN] at hPs
  obtain ⟨D, hD⟩ : ∃ x, dataE n = x := ⟨_, rfl⟩
  have Hf := Lib.hid hf
  have HH := Lib.hid hH
  have HO := Lib.hid hO
  have HP := Lib.hid hP
  have HN := Lib.hid hN
  have HD := Lib.hid hD
  have Hsm := Lib.hid (show N ≤ 1000000 by omega)
  have heq := eq_heads H H
  rw [decide_eq_true rfl] at heq
  clear hn hf hH hO hP hN hD hPs
  go_enter Try.func3, Try.ntmps3
  go_wp2_with (first
    | (go_at_call 9; (with_reducible refine (awake_s entryI _).mono ?_); rintro e w1 ⟨rfl, hs⟩; replace Hb := Lib.hid (Hb.out.keep hs Hb.out.lt); replace h0 := Stp.trans h0 hs; clear hs q0 q1 q2 q3 q4 q5 q6 q7; obtain ⟨q0, q1, q2, q3, q4, q5, q6, q7⟩ := nd_cells Hb.out)
    | (go_at_call 10; (with_reducible refine (few_s n _).mono ?_); rintro e w2 ⟨rfl, hs⟩; rw [Hf.out]; replace Hb := Lib.hid (Hb.out.keep hs Hb.out.lt); replace h0 := Stp.trans h0 hs; clear hs q0 q1 q2 q3 q4 q5 q6 q7; obtain ⟨q0, q1, q2, q3, q4, q5, q6, q7⟩ := nd_cells Hb.out; rcases fw)
    | (go_at_call 11; (with_reducible refine (ehead_s n Hn.out _).mono ?_); rintro e w3 ⟨rfl, hs⟩; rw [HH.out, HO.out]; have Hx := Lib.hid (Blk.new w3 27 (hcells H)); replace Hb := Lib.hid ((Hb.out.keep hs Hb.out.lt).alloc (.cells (hcells H) 27)); replace h0 := Stp.alloc (Stp.trans h0 hs) (.cells (hcells H) 27); clear hs q0 q1 q2 q3 q4 q5 q6 q7; obtain ⟨q0, q1, q2, q3, q4, q5, q6, q7⟩ := nd_cells Hb.out)
    | (go_at_call 12; (with_reducible refine (rehead_s n Hn.out _).mono ?_); rintro e w4 ⟨rfl, hs⟩; rw [HH.out, HO.out]; have Hy := Lib.hid (Blk.new w4 27 (hcells H)); replace Hx := Lib.hid ((Hx.out.keep hs Hx.out.lt).alloc (.cells (hcells H) 27)); replace Hb := Lib.hid ((Hb.out.keep hs Hb.out.lt).alloc (.cells (hcells H) 27)); replace h0 := Stp.alloc (Stp.trans h0 hs) (.cells (hcells H) 27); clear hs q0 q1 q2 q3 q4 q5 q6 q7; obtain ⟨q0, q1, q2, q3, q4, q5, q6, q7⟩ := nd_cells Hb.out)
    | (go_at_call 13; (with_reducible refine (eput_s n Hn.out _).mono ?_); rintro e w5 ⟨A5, c5, rfl, hr, hs⟩; rw [HP.out] at hr; rw [HP.out, HO.out, HN.out]; have Hr := Lib.hid hr; replace Hx := Lib.hid (Hx.out.keep hs Hx.out.lt); replace Hy := Lib.hid (Hy.out.keep hs Hy.out.lt); replace Hb := Lib.hid (Hb.out.keep hs Hb.out.lt); replace h0 := Stp.trans h0 hs; clear hr hs q0 q1 q2 q3 q4 q5 q6 q7; obtain ⟨q0, q1, q2, q3, q4, q5, q6, q7⟩ := nd_cells Hb.out)
    | (go_at_call 14; (with_reducible refine (reput_s n Hn.out _).mono ?_); rintro e w6 ⟨A6, c6, rfl, hr, hs⟩; rw [HP.out] at hr; rw [HP.out, HO.out, HN.out]; have Hs := Lib.hid hr; replace Hr := Lib.hid (Hr.out.keep hs); replace Hx := Lib.hid (Hx.out.keep hs Hx.out.lt); replace Hy := Lib.hid (Hy.out.keep hs Hy.out.lt); replace Hb := Lib.hid (Hb.out.keep hs Hb.out.lt); replace h0 := Stp.trans h0 hs; clear hr hs q0 q1 q2 q3 q4 q5 q6 q7)
    | (go_at_call 15; (with_reducible refine (rsame_t P _ _ _ _ _ _ Hr.out Hs.out HN.out Hsm.out).mono ?_); rintro e w7 ⟨rfl, hs⟩; replace Hx := Lib.hid (Hx.out.keep hs Hx.out.lt); replace Hy := Lib.hid (Hy.out.keep hs Hy.out.lt); replace Hb := Lib.hid (Hb.out.keep hs Hb.out.lt); replace h0 := Stp.trans h0 hs; clear hs Hr Hs))
  all_goals first | (go_ret; exact ⟨rfl, h0⟩) | skip
  obtain ⟨gx, hgx⟩ : ∃ g, w3.heap.size = g := ⟨_, rfl⟩
  obtain ⟨gy, hgy⟩ : ∃ g, w4.heap.size = g := ⟨_, rfl⟩
  rw [hgx] at Hx ⊢
  rw [hgy] at Hy ⊢
  have key : ∀ W, Stp w7 W → (W.cell? ⟨w.heap.size, 0, none⟩ = some (.string ⟨n.path.toArray⟩) ∧ W.cell? ⟨w.heap.size, 1, none⟩ = some (.string ⟨n.link.toArray⟩) ∧ W.cell? ⟨w.heap.size, 2, none⟩ = some (.int .u8 (n.kind.toNat : Int)) ∧ W.cell? ⟨w.heap.size, 3, none⟩ = some (.int .i64 n.mode) ∧ W.cell? ⟨w.heap.size, 4, none⟩ = some (.int .i64 n.uid) ∧ W.cell? ⟨w.heap.size, 5, none⟩ = some (.int .i64 n.gid) ∧ W.cell? ⟨w.heap.size, 6, none⟩ = some (.int .i64 n.time) ∧ W.cell? ⟨w.heap.size, 7, none⟩ = some (.string ⟨n.data.toArray⟩)) ∧
    (W.cell? ⟨gx, 0, none⟩ = some (.string ⟨H.name.toArray⟩) ∧ W.cell? ⟨gx, 1, none⟩ = some (.string ⟨H.pre.toArray⟩) ∧ W.cell? ⟨gx, 2, none⟩ = some (.string ⟨H.link.toArray⟩) ∧ W.cell? ⟨gx, 3, none⟩ = some (.int .i64 H.mode) ∧ W.cell? ⟨gx, 4, none⟩ = some (.int .i64 H.uid) ∧ W.cell? ⟨gx, 5, none⟩ = some (.int .i64 H.gid) ∧ W.cell? ⟨gx, 6, none⟩ = some (.int .i64 H.size) ∧ W.cell? ⟨gx, 7, none⟩ = some (.int .i64 H.time) ∧ W.cell? ⟨gx, 8, none⟩ = some (.int .u8 (H.ty.toNat : Int)) ∧ W.cell? ⟨gx, 9, none⟩ = some (.int .i64 H.off) ∧ W.cell? ⟨gx, 10, none⟩ = some (.int .i64 H.real)) ∧
    (W.cell? ⟨gy, 0, none⟩ = some (.string ⟨H.name.toArray⟩) ∧ W.cell? ⟨gy, 1, none⟩ = some (.string ⟨H.pre.toArray⟩) ∧ W.cell? ⟨gy, 2, none⟩ = some (.string ⟨H.link.toArray⟩) ∧ W.cell? ⟨gy, 3, none⟩ = some (.int .i64 H.mode) ∧ W.cell? ⟨gy, 4, none⟩ = some (.int .i64 H.uid) ∧ W.cell? ⟨gy, 5, none⟩ = some (.int .i64 H.gid) ∧ W.cell? ⟨gy, 6, none⟩ = some (.int .i64 H.size) ∧ W.cell? ⟨gy, 7, none⟩ = some (.int .i64 H.time) ∧ W.cell? ⟨gy, 8, none⟩ = some (.int .u8 (H.ty.toNat : Int)) ∧ W.cell? ⟨gy, 9, none⟩ = some (.int .i64 H.off) ∧ W.cell? ⟨gy, 10, none⟩ = some (.int .i64 H.real)) := fun W hW => ⟨nd_cells (Hb.out.keep hW Hb.out.lt), hd_cells (Hx.out.keep hW Hx.out.lt), hd_cells (Hy.out.keep hW Hy.out.lt)⟩
  have Key := Lib.hid key
  clear key hgx hgy
  have H0 := Lib.hid h0
  clear h0
  go_region_held3 (fun W : World => (W.cell? ⟨w.heap.size, 0, none⟩ = some (.string ⟨n.path.toArray⟩) ∧ W.cell? ⟨w.heap.size, 1, none⟩ = some (.string ⟨n.link.toArray⟩) ∧ W.cell? ⟨w.heap.size, 2, none⟩ = some (.int .u8 (n.kind.toNat : Int)) ∧ W.cell? ⟨w.heap.size, 3, none⟩ = some (.int .i64 n.mode) ∧ W.cell? ⟨w.heap.size, 4, none⟩ = some (.int .i64 n.uid) ∧ W.cell? ⟨w.heap.size, 5, none⟩ = some (.int .i64 n.gid) ∧ W.cell? ⟨w.heap.size, 6, none⟩ = some (.int .i64 n.time) ∧ W.cell? ⟨w.heap.size, 7, none⟩ = some (.string ⟨n.data.toArray⟩)) ∧
    (W.cell? ⟨gx, 0, none⟩ = some (.string ⟨H.name.toArray⟩) ∧ W.cell? ⟨gx, 1, none⟩ = some (.string ⟨H.pre.toArray⟩) ∧ W.cell? ⟨gx, 2, none⟩ = some (.string ⟨H.link.toArray⟩) ∧ W.cell? ⟨gx, 3, none⟩ = some (.int .i64 H.mode) ∧ W.cell? ⟨gx, 4, none⟩ = some (.int .i64 H.uid) ∧ W.cell? ⟨gx, 5, none⟩ = some (.int .i64 H.gid) ∧ W.cell? ⟨gx, 6, none⟩ = some (.int .i64 H.size) ∧ W.cell? ⟨gx, 7, none⟩ = some (.int .i64 H.time) ∧ W.cell? ⟨gx, 8, none⟩ = some (.int .u8 (H.ty.toNat : Int)) ∧ W.cell? ⟨gx, 9, none⟩ = some (.int .i64 H.off) ∧ W.cell? ⟨gx, 10, none⟩ = some (.int .i64 H.real)) ∧
    (W.cell? ⟨gy, 0, none⟩ = some (.string ⟨H.name.toArray⟩) ∧ W.cell? ⟨gy, 1, none⟩ = some (.string ⟨H.pre.toArray⟩) ∧ W.cell? ⟨gy, 2, none⟩ = some (.string ⟨H.link.toArray⟩) ∧ W.cell? ⟨gy, 3, none⟩ = some (.int .i64 H.mode) ∧ W.cell? ⟨gy, 4, none⟩ = some (.int .i64 H.uid) ∧ W.cell? ⟨gy, 5, none⟩ = some (.int .i64 H.gid) ∧ W.cell? ⟨gy, 6, none⟩ = some (.int .i64 H.size) ∧ W.cell? ⟨gy, 7, none⟩ = some (.int .i64 H.time) ∧ W.cell? ⟨gy, 8, none⟩ = some (.int .u8 (H.ty.toNat : Int)) ∧ W.cell? ⟨gy, 9, none⟩ = some (.int .i64 H.off) ∧ W.cell? ⟨gy, 10, none⟩ = some (.int .i64 H.real)))
    (first | exact Key.out _ (stp_drew (Stp.refl _)) | exact Key.out _ H1.out | exact Key.out _ H2.out | exact Key.out _ H3.out | exact Key.out _ H4.out)
    (first
      | (go_at_call 16; (with_reducible refine (emany_s n Hn.out _).mono ?_); rintro e wa ⟨rfl, hs⟩; rw [HP.out, HN.out]; have H1 := Lib.hid (Stp.trans (stp_drew (Stp.refl w7)) hs); clear hs)
      | (go_at_call 17; (with_reducible refine (remany_s n Hn.out _).mono ?_); rintro e wb ⟨rfl, hs⟩; rw [HP.out, HN.out]; have H2 := Lib.hid (Stp.trans H1.out hs); clear hs)
      | (go_at_call 18; (with_reducible refine (edata_s n Hn.out _).mono ?_); rintro e wc ⟨rfl, hs⟩; rw [HD.out]; have H3 := Lib.hid (Stp.trans H2.out hs); clear hs)
      | (go_at_call 19; (with_reducible refine (redata_s n Hn.out _).mono ?_); rintro e wd ⟨rfl, hs⟩; rw [HD.out]; have H4 := Lib.hid (Stp.trans H3.out hs); clear hs))
  go_wp2_with fail
  go_ret
  exact ⟨by simp, Stp.trans H0.out H4.out⟩
end Go.Proofs.Ytihigbaaajmjlaa.Entry
