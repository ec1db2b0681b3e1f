/-
  The document's own answers for package entry: no statement is proved here.
-/
import Derived.Test.YtcgdeeinnfkgkaaGreatEntryI
import Derived.Test.YtcgdeeinnfkgkaaGreatLongRef
import Derived.Test.YtcgdeeinnfkgkaaGreatTreeOne
namespace Go.Proofs.YtcgdeeinnfkgkaaGreat.Entry
open Go.RowKit Go.Proofs.YtcgdeeinnfkgkaaGreat.Str Go.Proofs.YtcgdeeinnfkgkaaGreat.Base Go.Proofs.YtcgdeeinnfkgkaaGreat.Node Go.Proofs.YtcgdeeinnfkgkaaGreat.Head Go.Proofs.YtcgdeeinnfkgkaaGreat.Long
open Go.Proofs.YtcgdeeinnfkgkaaGreat.Tree (oneB)

set_option maxRecDepth 100000 in
set_option maxHeartbeats 4000000 in
theorem rehead_s (n : Nd) (hn : SmallN n) (w : World) :
    Calls Tryz.prog 33 #[nv n] w fun e w' => e = .returned (.tuple #[hv (headV n), .bool (oneB n)]) ∧ Stp w w' := by
  have h1 := Stp.alloc (Stp.refl w) (.cells (ncells n) 39)
  have h0 := Stp.alloc h1 (.cells (hcells zeroH) 55)
  have hw1 := h1.size
  have Hn := Lib.hid hn
  have Hb := Lib.hid ((Blk.new w 39 (ncells n)).alloc (.cells (hcells zeroH) 55))
  obtain ⟨gz, hgz⟩ : ∃ x, (w.alloc (.cells (ncells n) 39)).heap.size = x := ⟨_, rfl⟩
  have Hz0 := Blk.new (w.alloc (.cells (ncells n) 39)) 55 (hcells zeroH)
  rw [hgz] at Hz0 hw1
  have Hz := Lib.hid Hz0
  obtain ⟨q0, q1, q2, q3, q4, q5, q6, q7⟩ := nd_cells (Blk.new w 39 (ncells n))
  clear hn Hz0 h1
  cases ho : oneB n
  · rw [headV_no ho]
    have Ho := Lib.hid ho
    clear ho
    go_enter Tryz.func33, Tryz.ntmps33
    go_wp2_with (go_at_call 30; go_loud ((with_reducible refine (Tree.rone_s n Hn.out _).mono ?_); rintro e w1 ⟨rfl, hs⟩; rw [Ho.out]; replace h0 := Stp.trans h0 hs; replace Hz := Lib.hid (Hz.out.keep hs Hz.out.lt); clear hs q0 q1 q2 q3 q4 q5 q6 q7; obtain ⟨⟨z0, z1, z2, z3, z4, z5, z6, z7, z8, z9, z10⟩, y0, y1, y2, y3, y4, y5, y6, y7, y8, y9, y10⟩ := zy Hz.out))
    have hf := fill_blk zeroH Hz.out
    have hst := fill_stp zeroH h0 hw1
    change bodyPost _ _ _ _ _ (fillW w1 gz zeroH)
    generalize fillW w1 gz zeroH = W at hf hst ⊢
    clear z0 z1 z2 z3 z4 z5 z6 z7 z8 z9 z10 y0 y1 y2 y3 y4 y5 y6 y7 y8 y9 y10
    obtain ⟨z0, z1, z2, z3, z4, z5, z6, z7, z8, z9, z10⟩ := hd_cells hf
    refine bodyPost_ret (v := .tuple #[hv zeroH, .bool false]) (by simp [results, Tryz.results33, go_sem, *]) rfl ⟨rfl, hst⟩
  · rw [headV_yes ho]
    have Ho := Lib.hid ho
    clear ho
    go_enter Tryz.func33, Tryz.ntmps33
    go_wp2_with (first
      | (go_at_call 30; go_loud ((with_reducible refine (Tree.rone_s n Hn.out _).mono ?_); rintro e w1 ⟨rfl, hs⟩; rw [Ho.out]; replace Hb := Lib.hid (Hb.out.keep hs Hb.out.lt); replace h0 := Stp.trans h0 hs; replace Hz := Lib.hid (Hz.out.keep hs Hz.out.lt); clear hs q0 q1 q2 q3 q4 q5 q6 q7; obtain ⟨q0, q1, q2, q3, q4, q5, q6, q7⟩ := nd_cells Hb.out))
      | (go_at_call 52; go_loud ((with_reducible refine (rnames_s n Hn.out _).mono ?_); rintro e w2 ⟨rfl, hs⟩; replace Hb := Lib.hid (Hb.out.keep hs Hb.out.lt); replace h0 := Stp.trans h0 hs; replace Hz := Lib.hid (Hz.out.keep hs Hz.out.lt); clear hs q0 q1 q2 q3 q4 q5 q6 q7; obtain ⟨q0, q1, q2, q3, q4, q5, q6, q7⟩ := nd_cells Hb.out; obtain ⟨⟨z0, z1, z2, z3, z4, z5, z6, z7, z8, z9, z10⟩, y0, y1, y2, y3, y4, y5, y6, y7, y8, y9, y10⟩ := zy Hz.out)))
    have hf := fill_blk (headE n) Hz.out
    have hst := fill_stp (headE n) h0 hw1
    change bodyPost _ _ _ _ _ (fillW w2 gz (headE n))
    generalize fillW w2 gz (headE n) = W at hf hst ⊢
    clear z0 z1 z2 z3 z4 z5 z6 z7 z8 z9 z10 y0 y1 y2 y3 y4 y5 y6 y7 y8 y9 y10
    obtain ⟨z0, z1, z2, z3, z4, z5, z6, z7, z8, z9, z10⟩ := hd_cells hf
    refine bodyPost_ret (v := .tuple #[hv (headE n), .bool true]) (by simp [results, Tryz.results33, go_sem, *]) rfl ⟨rfl, hst⟩

theorem rput_v (h : Hd) (v : Value) (e : v = hv h) (hs : SmallH h) (w : World) :
    Calls Tryz.prog 34 #[v] w fun e w' => ∃ A cap, e = .returned (.tuple #[.slice A (putB h).length cap, .bool (mayH h)]) ∧ RdA w' A cap (bs (putB h)) ∧ Stp w w' := by
  subst e
  exact rputH_s h hs w
theorem rcut_v (s : L) (v : ByteArray) (e : v = ⟨s.toArray⟩) (ls : List L) (h : BlockM.cutV s = ls) (n : Nat) (hn : ls.length = n) (w : World) (hs : s.length ≤ 1000000) :
    Calls Tryz.prog 36 #[.string v] w fun e w' => ∃ A cap, e = .returned (.slice A n cap) ∧ RdL w' A cap ls ∧ Stp w w' := by
  subst e h hn
  exact Block.rcut_s s w hs
theorem lit_rr {w : World} {A : Option Addr} {n cap : Nat} {l : L} {e : TypeId} (h : RdA w A cap (bs l)) (hn : l.length = n) : RdL (w.alloc (.cells #[.slice A n cap] e)) (some ⟨w.heap.size, 0, none⟩) 1 [l] := by
  obtain ⟨A', c', he, hL⟩ := (Rows.one (e := e) h hn).rdL
  cases he
  exact hL
theorem blk_past {w w' : World} {lo g : Nat} {e t : TypeId} {v : Value} {ls : List L} {cs : Array Value} (hr : Base.Rows w lo e v ls) (h : Blk w g t cs) (hg : w.grownBy w' v.ownBlock) (hl : g < lo) : Blk w' g t cs := by
  obtain ⟨us, h1, _, _, _⟩ := hr
  exact h.grown hg (fun q => by
    have := (h1.lt g q.symm).1
    omega)

set_option maxRecDepth 100000 in
set_option maxHeartbeats 4000000 in
theorem reput_s (n : Nd) (hn : SmallN n) (w : World) :
    Calls Tryz.prog 20 #[nv n] w fun e w' => ∃ A cap, e = .returned (.tuple #[.slice A (putE n).length cap, .bool (oneB n)]) ∧ RdL w' A cap (putE n) ∧ Stp w w' := by
  have h0 := Stp.alloc (Stp.refl w) (.cells (ncells n) 39)
  have Hn := Lib.hid hn
  have Hb := Lib.hid (Blk.new w 39 (ncells n))
  obtain ⟨q0, q1, q2, q3, q4, q5, q6, q7⟩ := nd_cells Hb.out
  clear hn
  cases ho : oneB n
  · rw [putE_no ho]
    have Ho := Lib.hid ho
    have Hz := Lib.hid (headV_no ho)
    clear ho
    go_enter Tryz.func20, Tryz.ntmps20
    go_wp2_with (go_at_call 33; (with_reducible refine (rehead_s n Hn.out _).mono ?_); rintro e w1 ⟨rfl, hs⟩; rw [Ho.out, Hz.out]; replace h0 := Stp.trans h0 hs; clear hs)
    go_ret2
    exact ⟨none, 0, rfl, RdL.nil _, Stp.alloc h0 _⟩
  · have Ho := Lib.hid ho
    have Hz := Lib.hid (headV_yes ho)
    have hP := putE_yes ho
    obtain ⟨P, hPP⟩ : ∃ P, putE n = P := ⟨_, rfl⟩
    rw [hPP] at hP ⊢
    have h4 : (aheadV n).length ≤ 4 := by rw [ahead_length ho]; split <;> split <;> omega
    have h8 : (BlockM.cutV n.data).length ≤ 8 := by rw [BlockM.cutV_length]; exact BlockM.manyN_small (by have := (oneF ho).data; omega)
    obtain ⟨AA, hA⟩ : ∃ x, aheadV n = x := ⟨_, rfl⟩
    obtain ⟨CC, hC⟩ : ∃ x, BlockM.cutV n.data = x := ⟨_, rfl⟩
    obtain ⟨B, hB⟩ : ∃ x, blk (headE n) = x := ⟨_, rfl⟩
    have hBl : B.length = 512 := by rw [← hB]; exact blk_length (head_may ho) (head_small ho)
    rw [hA, hC, hB] at hP
    rw [hA] at h4
    rw [hC] at h8
    have HP := Lib.hid (show (AA ++ [B]) ++ CC = P by rw [hP]; simp)
    have H4 := Lib.hid h4
    have H8 := Lib.hid h8
    have HA := Lib.hid hA
    have HC := Lib.hid hC
    have HB := Lib.hid ((putB_yes (head_may ho)).trans hB)
    have HBl := Lib.hid hBl
    have Hm := Lib.hid (head_may ho)
    have Hsm := Lib.hid (head_small ho)
    have Hd := Lib.hid (show n.data.length ≤ 1000000 by have := (oneF ho).data; omega)
    have Hp := Lib.hid (show n.path.length ≤ 900000 by have := (PathM.mayB_iff.1 (oneF ho).path).2.1; omega)
    have Hk := Lib.hid (show n.link.length ≤ 900000 by
      rcases (oneF ho).link with e | e
      · rw [e]; simp
      · have := (textL_iff.1 e).2.1
        omega)
    clear ho hP hPP hA hC hB hBl h4 h8
    go_enter Tryz.func20, Tryz.ntmps20
    go_wp2_with (first
      | (go_at_call 33; (with_reducible refine (rehead_s n Hn.out _).mono ?_); rintro e w1 ⟨rfl, hs⟩; rw [Ho.out, Hz.out]; replace Hb := Lib.hid (Hb.out.keep hs Hb.out.lt); replace h0 := Stp.trans h0 hs; clear hs q0 q1 q2 q3 q4 q5 q6 q7)
      | (go_at_call 34; (with_reducible refine (rput_v (headE n) _ rfl Hsm.out _).mono ?_); rintro e w4 ⟨A4, c4, rfl, hr, hs⟩; rw [HB.out] at hr; rw [HB.out, HBl.out, Hm.out]; have Hr := Lib.hid hr; replace Hb := Lib.hid ((Hb.out.alloc _).keep hs (Hb.out.alloc _).lt); replace h0 := Stp.trans (Stp.alloc h0 _) hs; clear hs hr; obtain ⟨q0, q1, q2, q3, q4, q5, q6, q7⟩ := nd_cells Hb.out)
      | (go_at_call 35; (with_reducible refine (rahead_r n Hn.out Hp.out Hk.out _).mono ?_); rintro e w5 ⟨v5, rfl, h5, hs⟩; rw [HA.out] at h5; have Hb4 := Lib.hid Hb.out.lt; have Hlit := Lib.hid (lit_rr (e := 43) (Hr.out.keep hs) HBl.out); have HR := Lib.hid (h5.keep (Stp.alloc (Stp.refl w5) (.cells #[.slice A4 512 c4] 43))); replace Hb := Lib.hid ((Hb.out.keep hs Hb.out.lt).alloc (.cells #[.slice A4 512 c4] 43)); have Hsz := Lib.hid (Stp.alloc hs (.cells #[.slice A4 512 c4] 43)).size; have Hw := Lib.hid h0.size; replace h0 := Stp.trans h0 (Stp.alloc hs (.cells #[.slice A4 512 c4] 43)); clear hs h5 q0 q1 q2 q3 q4 q5 q6 q7; obtain ⟨q0, q1, q2, q3, q4, q5, q6, q7⟩ := nd_cells Hb.out)
      | (at_builtin; refine Base.wpList_append_rows (P := Tryz.prog) rfl (.tmp 22) (.tmp 24) 25 rfl 43 Tryz.underlying25 slices_info _ rfl HR.out rfl Hlit.out rfl (by have := H4.out; simp only [List.length_cons, List.length_nil]; omega) Hsz.out ?_; intro v6 w6 hR hg; replace Hb := Lib.hid (blk_past HR.out Hb.out hg Hb4.out); replace h0 := HR.out.stp h0 Hw.out hg; have Hs6 := Lib.hid (Nat.le_trans Hsz.out hg.size); have HR2 := Lib.hid hR; clear hR hg q0 q1 q2 q3 q4 q5 q6 q7; obtain ⟨q0, q1, q2, q3, q4, q5, q6, q7⟩ := nd_cells Hb.out)
      | (go_at_call 36; (with_reducible refine (rcut_v n.data _ rfl CC HC.out CC.length rfl _ Hd.out).mono ?_); rintro e w8 ⟨A8, c8, rfl, h8, hs⟩; have H8c := Lib.hid h8; replace HR2 := Lib.hid (HR2.out.keep hs); replace h0 := Stp.trans h0 hs; have Hs8 := Lib.hid (Nat.le_trans Hs6.out hs.size); clear hs h8 q0 q1 q2 q3 q4 q5 q6 q7)
      | (at_builtin; refine Base.wpList_append_rows (P := Tryz.prog) rfl (.tmp 26) (.tmp 29) 25 rfl 43 Tryz.underlying25 slices_info _ rfl HR2.out rfl H8c.out rfl (by have := H4.out; have := H8.out; simp only [List.length_append, List.length_cons, List.length_nil]; omega) Hs8.out ?_; intro v9 w9 hR hg; replace h0 := HR2.out.stp h0 Hw.out hg; rw [HP.out] at hR; obtain ⟨A9, c9, rfl, hL9⟩ := hR.rdL; have HL9 := Lib.hid hL9; clear hR hg hL9))
    all_goals go_ret2
    all_goals exact ⟨A9, c9, rfl, HL9.out, h0⟩
set_option maxRecDepth 100000 in
theorem remany_s (n : Nd) (hn : SmallN n) (w : World) :
    Calls Tryz.prog 23 #[nv n] w fun e w' => e = .returned (.int .i64 ((putE n).length : Int)) ∧ Stp w w' := by
  have h0 := Stp.alloc (Stp.refl w) (.cells (ncells n) 39)
  have Hn := Lib.hid hn
  have Hb := Lib.hid (Blk.new w 39 (ncells n))
  obtain ⟨q0, q1, q2, q3, q4, q5, q6, q7⟩ := nd_cells Hb.out
  clear hn
  go_enter Tryz.func23, Tryz.ntmps23
  go_wp2_with (go_at_call 20; (with_reducible refine (reput_s n Hn.out _).mono ?_); rintro e w1 ⟨A, c, rfl, -, hs⟩; replace h0 := Stp.trans h0 hs; clear hs)
  all_goals go_ret
  all_goals exact ⟨rfl, h0⟩
set_option maxRecDepth 100000 in
set_option maxHeartbeats 2000000 in
theorem redata_s (n : Nd) (hn : SmallN n) (w : World) :
    Calls Tryz.prog 22 #[nv n] w fun e w' => e = .returned (.int .i64 (dataE n : Int)) ∧ Stp w w' := by
  have h0 := Stp.alloc (Stp.refl w) (.cells (ncells n) 39)
  have Hn := Lib.hid hn
  have Hb := Lib.hid (Blk.new w 39 (ncells n))
  obtain ⟨q0, q1, q2, q3, q4, q5, q6, q7⟩ := nd_cells Hb.out
  clear hn
  cases ho : oneB n
  · rw [dataE_no ho]
    have Ho := Lib.hid ho
    clear ho
    go_enter Tryz.func22, Tryz.ntmps22
    go_wp2_with (go_at_call 30; (with_reducible refine (Tree.rone_s n Hn.out _).mono ?_); rintro e w1 ⟨rfl, hs⟩; rw [Ho.out]; replace h0 := Stp.trans h0 hs; clear hs)
    go_ret
    exact ⟨rfl, h0⟩
  · rw [dataE_yes ho]
    have Ho := Lib.hid ho
    clear ho
    go_enter Tryz.func22, Tryz.ntmps22
    go_wp2_with (first
      | (go_at_call 30; (with_reducible refine (Tree.rone_s n Hn.out _).mono ?_); rintro e w1 ⟨rfl, hs⟩; rw [Ho.out]; replace Hb := Lib.hid (Hb.out.keep hs Hb.out.lt); replace h0 := Stp.trans h0 hs; clear hs q0 q1 q2 q3 q4 q5 q6 q7; obtain ⟨q0, q1, q2, q3, q4, q5, q6, q7⟩ := nd_cells Hb.out)
      | (go_at_call 37; (with_reducible refine (Block.rmany_s (n.data.length : Int) _ (by have := Hn.out.data; omega) (by omega)).mono ?_); rintro e w2 ⟨rfl, hs⟩; rw [BlockM.manyV_nat]; replace h0 := Stp.trans h0 hs; clear hs))
    all_goals go_ret
    all_goals exact ⟨rfl, h0⟩
end Go.Proofs.YtcgdeeinnfkgkaaGreat.Entry
