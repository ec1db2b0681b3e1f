/-
  The law FsTree, walked over the contracts: no statement is proved here.
-/
import Derived.Test.YtjddgmdbgajjpaaFsI
import Derived.Deep.RegionWith
import Derived.Deep.RegionLaw
import Derived.BigQuiet
import Derived.Deep.Cut
import Derived.Deep.CutRange
namespace Go.Proofs.Ytjddgmdbgajjpaa.Fs
open Go.Sort Go.RowKit Go.Proofs.Ytjddgmdbgajjpaa.Str Go.Proofs.Ytjddgmdbgajjpaa.Base Go.Proofs.Ytjddgmdbgajjpaa.Node Go.Proofs.Ytjddgmdbgajjpaa.Long Go.Proofs.Ytjddgmdbgajjpaa.FsM
open Go.Proofs.Ytjddgmdbgajjpaa.Tree (oneB mayT fewT nodeA nodeB)
set_option linter.unusedVariables false

theorem same_n (ns ms : List Nd) (m j : Nat) (hm : ns.length = m) (hj : ms.length = j) (hl : j < 9223372036854775808) (b : Bool) (hb : (ns == ms) = b) (A B : Option Addr) (c d : Nat) (w : World) (ha : RdN w A c ns) (hb2 : RdN w B d ms) :
    Calls Try.prog 28 #[.slice A m c, .slice B j d] w fun e w' => e = .returned (.bool b) ∧ Stp w w' := by
  subst hm hj hb
  exact Tree.rsame_s ns ms A B c d w ha hb2 hl
set_option maxRecDepth 100000 in
set_option maxHeartbeats 4000000 in
theorem tree_out (I : FsI) (hA : ∀ w : World, Calls Try.prog 9 #[] w fun e w' => e = .returned (.bool true) ∧ Stp w w') (t : List Nd) (n : Nat) (hn : t.length = n) (hn9 : n < 9223372036854775808) (hs : ∀ x ∈ t, SmallN x) (A : Option Addr) (c : Nat) (kk : Int) (w : World) (ha : RdN w A c t) (f1 f2 : Bool) (h1 : fewT t = f1) (h2 : mayT t = f2) (h : f1 = false ∨ (f1 = true ∧ f2 = false)) :
    Calls Try.prog 7 #[.slice A n c, .int .i64 kk] w fun e w' => e = .returned (.bool true) ∧ Stp w w' := by
  have HI := Lib.hid I
  have HA := Lib.hid hA
  have Hn := Lib.hid hn
  have Hs := Lib.hid hs
  have HT := Lib.hid ha
  have Hl : Hid (f1 = true → n ≤ 1000) := Lib.hid fun h => by rw [h] at h1; have := (Tree.fewT_iff.1 h1).1; omega
  have F1 := Lib.hid h1
  have F2 := Lib.hid h2
  have h0 := Lib.hid (Stp.refl w)
  clear I hA hn hs ha h1 h2
  rcases h with rfl | ⟨rfl, rfl⟩
  all_goals try replace Hl := Lib.hid (Hl.out rfl)
  all_goals
    go_enter Try.func7, Try.ntmps7
    go_wp2_with (first
      | (go_at_call 9; (refine (HA.out _).mono ?_); rintro e wn ⟨rfl, hs⟩; replace h0 := Lib.hid (Stp.trans h0.out hs); clear hs)
      | (go_at_call 10; (with_reducible refine (fewt_n t n Hn.out hn9 _ F1.out A c _ (HT.out.keep h0.out)).mono ?_); rintro e wn ⟨rfl, hs⟩; replace h0 := Lib.hid (Stp.trans h0.out hs); clear hs)
      | (go_at_call 27; (with_reducible refine (tmay_n t n Hn.out Hl.out Hs.out _ F2.out A c _ (HT.out.keep h0.out)).mono ?_); rintro e wn ⟨rfl, hs⟩; replace h0 := Lib.hid (Stp.trans h0.out hs); clear hs))
    go_ret
    exact ⟨rfl, h0.out⟩
set_option maxRecDepth 100000 in
set_option maxHeartbeats 16000000 in
theorem tree_in (I : FsI) (hA : ∀ w : World, Calls Try.prog 9 #[] w fun e w' => e = .returned (.bool true) ∧ Stp w w') (t : List Nd) (n : Nat) (hn : t.length = n) (hn9 : n < 9223372036854775808) (hs : ∀ x ∈ t, SmallN x) (A : Option Addr) (c : Nat) (kk : Int) (w : World) (ha : RdN w A c t) (h1 : fewT t = true) (h2 : mayT t = true) :
    Calls Try.prog 7 #[.slice A n c, .int .i64 kk] w fun e w' => e = .returned (.bool true) ∧ Stp w w' := by
  have n30 : n ≤ 30 := by have := (Tree.fewT_iff.1 h1).1; omega
  have HI := Lib.hid I
  have HA := Lib.hid hA
  have Hn := Lib.hid hn
  have Hs := Lib.hid hs
  have HT := Lib.hid ha
  have Hl : Hid (n ≤ 1000) := Lib.hid (by omega)
  have F1 := Lib.hid h1
  have F2 := Lib.hid h2
  have h0 := Lib.hid (Stp.refl w)
  have Hst : Hid (∀ j, ∀ x ∈ t.take j, SmallN x) := Lib.hid fun j x hx => hs x (List.mem_of_mem_take hx)
  have Hmay : Hid (mayF t = true) := Lib.hid (tree_may h2)
  clear I hA hn hs ha h1 h2
  go_enter Try.func7, Try.ntmps7
  go_upto_region 5 with (first
    | (go_at_call 9; (refine (HA.out _).mono ?_); rintro e wn ⟨rfl, hs⟩; replace h0 := Lib.hid (Stp.trans h0.out hs); clear hs)
    | (go_at_call 10; (with_reducible refine (fewt_n t n Hn.out hn9 _ F1.out A c _ (HT.out.keep h0.out)).mono ?_); rintro e wn ⟨rfl, hs⟩; replace h0 := Lib.hid (Stp.trans h0.out hs); clear hs)
    | (go_at_call 27; (with_reducible refine (tmay_n t n Hn.out Hl.out Hs.out _ F2.out A c _ (HT.out.keep h0.out)).mono ?_); rintro e wn ⟨rfl, hs⟩; replace h0 := Lib.hid (Stp.trans h0.out hs); clear hs))
  have HF0 := Lib.hid (Blk.new wn 24 (fcs none 0 0))
  have hal := Stp.alloc (Stp.refl wn) (.cells (fcs none 0 0) 24)
  have hge := h0.out.size
  replace h0 := Lib.hid (Stp.trans h0.out hal)
  go_upto_region 6 with fail
  change Code.wp _ _ _ _ (wn.alloc (.cells (fcs none 0 0) 24))
  obtain ⟨gf, hgf⟩ : ∃ g, wn.heap.size = g := ⟨_, rfl⟩
  rw [hgf] at HF0 hge ⊢
  clear hal hgf
  generalize wn.alloc (.cells (fcs none 0 0) 24) = W0 at HF0 h0 ⊢
  go_wp2_with fail
  go_loopw [8] (fun iv wr => ∃ (j : Nat) (B : Option Addr) (d : Nat), j ≤ n ∧ iv = .int .i64 (j : Int) ∧ Hid (Blk wr gf 24 (fcs B j d)) ∧ Hid (RdN wr B d (t.take j)) ∧ Hid (Stp w wr)) (fun iv _ => n - (intOf iv).toNat)
  case atStart => exact ⟨0, none, 0, by omega, rfl, HF0, Lib.hid (RdN.nil _), h0⟩
  case round =>
    obtain ⟨j, B, d, hj, rfl, HF, HB, HS⟩ := hrel
    have fc := fs_cell HF.out
    by_cases hlt : j < n
    · obtain ⟨x, hx⟩ : ∃ x, t[j]? = some x := ⟨_, List.getElem?_eq_getElem (by rw [Hn.out]; exact hlt)⟩
      obtain ⟨bk, ok, rfl, -, p0, p1, p2, p3, p4, p5, p6, p7⟩ := (HT.out.keep HS.out).cells hx
      have Hx := Lib.hid (Hs.out x (List.mem_of_getElem? hx))
      have Hx1 := Lib.hid hx
      have Hput := Lib.hid (tree_put F2.out hx)
      have Hl1 : Hid ((t.take j).length = j) := Lib.hid (by rw [List.length_take, Hn.out]; omega)
      have Hl2 : Hid ((t.take (j + 1)).length = j + 1) := Lib.hid (by rw [List.length_take, Hn.out]; omega)
      have Hj : Hid (j ≤ 1000) := Lib.hid (by omega)
      have g5 : decide ((j : Int) < (n : Int)) = true := decide_eq_true (by omega)
      clear hx
      go_upto_region 9 with fail
      have Xa := Lib.hid (show Stp wr wr.drew from Stp.drewN (Stp.refl wr) 1)
      have Xb := Lib.hid (show Stp wr (wr.alloc (.cells (fcs none 0 0) 24)).drew from Stp.drewN (Stp.alloc (Stp.refl wr) _) 1)
      have Nb := Lib.hid (show Blk (wr.alloc (.cells (fcs none 0 0) 24)).drew wr.heap.size 24 (fcs none 0 0) from Blk.drew (Blk.new wr _ _))
      have Ca := Lib.hid (HI.out.put (t.take j) j Hl1.out Hj.out (Hst.out j) x _ rfl Hx.out (t.take (j + 1)) 0 Hput.out (j + 1) Hl2.out B d wr.drew (HB.out.keep Xa.out))
      have Cb := Lib.hid (HI.out.put (t.take j) j Hl1.out Hj.out (Hst.out j) x _ rfl Hx.out (t.take (j + 1)) 0 Hput.out (j + 1) Hl2.out B d (wr.alloc (.cells (fcs none 0 0) 24)).drew (HB.out.keep Xb.out))
      have hgw : gf < wr.heap.size := HF.out.lt
      go_cut [9, 10] from 36 to 47 (fun s9 s10 wx => ∃ (gg : Nat) (B2 : Option Addr) (d2 : Nat), s9 = .pointer (some ⟨gg, 0, none⟩) ∧ s10 = .int .i64 0 ∧ Hid (Blk wx gg 24 (fcs B2 (j + 1) d2)) ∧ Hid (RdN wx B2 d2 (t.take (j + 1))) ∧ Hid (Stp wr wx))
      case first =>
        obtain ⟨b2, o2, e2, -, a0, a1, a2, a3, a4, a5, a6, a7⟩ := (HT.out.keep (Stp.trans HS.out Xa.out)).cells Hx1.out
        cases e2
        obtain ⟨b3, o3, e3, -, b_0, b_1, b_2, b_3, b_4, b_5, b_6, b_7⟩ := (HT.out.keep (Stp.trans HS.out Xb.out)).cells Hx1.out
        cases e3
        obtain ⟨b4, o4, e4, -, c_0, c_1, c_2, c_3, c_4, c_5, c_6, c_7⟩ := (HT.out.keep (Stp.alloc HS.out (.cells (fcs none 0 0) 24))).cells Hx1.out
        cases e4
        have fa := fs_cell (HF.out.keep Xa.out HF.out.lt)
        have fb := fs_cell (HF.out.keep Xb.out HF.out.lt)
        have fd := fs_cell (HF.out.alloc (.cells (fcs none 0 0) 24))
        go_region_law (first
          | (go_simp; go_at_call 12; (with_reducible refine Cb.out.mono ?_); rintro e wx ⟨B2, d2, rfl, hr, hs⟩; have HY := Lib.hid (fill_fs (z := j + 1) Xb.out hs Nb.out (Nat.le_refl _) hr); have yc := fs_cell HY.out.2.2.2; have yf := HY.out.2.2.2.free 0; clear hr hs)
          | (go_simp; go_at_call 12; (with_reducible refine Ca.out.mono ?_); rintro e wx ⟨B2, d2, rfl, hr, hs⟩; have HY := Lib.hid (new_fs (z := j + 1) Xa.out hs hr); clear hr hs))
        all_goals
          go_wp2_with fail
          go_simp
          go_meet
          first
            | with_reducible exact ⟨_, _, _, rfl, rfl, Lib.hid HY.out.1, Lib.hid HY.out.2.1, Lib.hid HY.out.2.2⟩
            | with_reducible exact ⟨_, _, _, rfl, rfl, Lib.hid HY.out.1, Lib.hid HY.out.2.1, Lib.hid HY.out.2.2.1⟩
      case rest =>
      obtain ⟨gg, B2, d2, rfl, rfl, HG, HB2, HSw⟩ := hcut
      have HFp := Lib.hid (HF.out.keep HSw.out HF.out.lt)
      have HSp := Lib.hid (Stp.trans HS.out HSw.out)
      clear fc p0 p1 p2 p3 p4 p5 p6 p7
      obtain ⟨W1, hW1⟩ : ∃ W, W = wc := ⟨_, rfl⟩
      subst hW1
      have gc := fs_cell HG.out
      have fc := fs_cell HFp.out
      have ff := HFp.out.free 0
      have HB3 := Lib.hid (rdn_far HB2.out HFp.out 0 (.slice B2 (j + 1) d2))
      have HF3 : Hid (Blk (W1.setCell ⟨gf, 0, none⟩ (.slice B2 (j + 1) d2)) gf 24 (fcs B2 (j + 1) d2)) := Lib.hid (HFp.out.put 0 (.slice B2 (j + 1) d2))
      have HS3 := Lib.hid (Below.setCell HSp.out (p := ⟨gf, 0, none⟩) hge (.slice B2 (j + 1) d2))
      go_wp2_with fail
      go_roundw
      case rel => exact ⟨j + 1, B2, d2, by omega, by go_num, HF3, HB3, HS3⟩
      case measure => simp [intOf]; omega
    · obtain rfl : j = n := by omega
      have g5 : decide ((j : Int) < (j : Int)) = false := decide_eq_false (by omega)
      replace HB := Lib.hid (show RdN wr B d t by have h := HB.out; rwa [List.take_of_length_le (by rw [Hn.out]; exact Nat.le_refl _)] at h)
      replace h0 : Hid (Stp w wr) := Lib.hid HS.out
      have Heq : Hid ((t == t) = true) := Lib.hid (by simp)
      clear hlt hj HS
      by_cases hk : 0 ≤ kk ∧ kk < (j : Int)
      case neg =>
        have key : decide (kk < 0) = true ∨ (decide (kk < 0) = false ∧ decide ((j : Int) ≤ kk) = true) := by
          by_cases h : kk < 0
          · exact .inl (decide_eq_true h)
          · exact .inr ⟨decide_eq_false h, decide_eq_true (by omega)⟩
        clear hk
        rcases key with k1 | ⟨k1, k2⟩
        all_goals
          go_wp2_with (first
            | (go_at_call 28; (with_reducible refine (same_n t t j j Hn.out Hn.out hn9 _ Heq.out B A d c _ HB.out (HT.out.keep h0.out)).mono ?_); rintro e ws ⟨rfl, hs⟩; replace h0 := Lib.hid (Stp.trans h0.out hs); replace HB := Lib.hid (HB.out.keep hs); replace HF := Lib.hid (HF.out.keep hs HF.out.lt); clear hs fc; have fc := fs_cell HF.out)
            | (go_at_call 22; (with_reducible refine (HI.out.may t j Hn.out Hl.out Hs.out _ Hmay.out B d _ HB.out).mono ?_); rintro e wm ⟨rfl, hs⟩; replace h0 := Lib.hid (Stp.trans h0.out hs); replace HB := Lib.hid (HB.out.keep hs); replace HF := Lib.hid (HF.out.keep hs HF.out.lt); clear hs fc; have fc := fs_cell HF.out))
          go_ret
          exact ⟨rfl, h0.out⟩
      obtain ⟨q, rfl⟩ : ∃ q : Nat, kk = (q : Int) := ⟨kk.toNat, by omega⟩
      obtain ⟨x, hx⟩ : ∃ x, t[q]? = some x := ⟨_, List.getElem?_eq_getElem (by rw [Hn.out]; omega)⟩
      have htx := text_tree Hmay.out hx
      obtain ⟨s, e0, htext⟩ : ∃ s e, textF t x.path = (s, e) := ⟨_, _, rfl⟩
      rw [htext] at htx
      have k1 : decide ((q : Int) < 0) = false := decide_eq_false (by omega)
      have k2 : decide ((j : Int) ≤ (q : Int)) = false := decide_eq_false (by omega)
      have k3 : ¬ j ≤ q := by omega
      have k4 : q < j := by omega
      have Hx := Lib.hid hx
      have HX := Lib.hid (Hs.out x (List.mem_of_getElem? hx)).path
      have Htext := Lib.hid htext
      clear hk hx htext g5
      go_upto_region 16 with (first
            | (go_at_call 28; (with_reducible refine (same_n t t j j Hn.out Hn.out hn9 _ Heq.out B A d c _ HB.out (HT.out.keep h0.out)).mono ?_); rintro e ws ⟨rfl, hs⟩; replace h0 := Lib.hid (Stp.trans h0.out hs); replace HB := Lib.hid (HB.out.keep hs); replace HF := Lib.hid (HF.out.keep hs HF.out.lt); clear hs fc; have fc := fs_cell HF.out)
            | (go_at_call 22; (with_reducible refine (HI.out.may t j Hn.out Hl.out Hs.out _ Hmay.out B d _ HB.out).mono ?_); rintro e wm ⟨rfl, hs⟩; replace h0 := Lib.hid (Stp.trans h0.out hs); replace HB := Lib.hid (HB.out.keep hs); replace HF := Lib.hid (HF.out.keep hs HF.out.lt); clear hs fc; have fc := fs_cell HF.out))
      obtain ⟨bk, ok, rfl, -, p0, p1, p2, p3, p4, p5, p6, p7⟩ := (HT.out.keep h0.out).cells Hx.out
      have X1 := Lib.hid (show Stp wm wm.drew from Stp.drewN (Stp.refl wm) 1)
      have C := Lib.hid (HI.out.text t j Hn.out Hl.out Hs.out x.path _ rfl HX.out s e0 Htext.out B d wm.drew (HB.out.keep X1.out))
      go_region_with (go_at_call 18; (with_reducible refine C.out.mono ?_); rintro e wt ⟨rfl, hs⟩; replace h0 := Lib.hid (Stp.trans h0.out (Stp.trans X1.out hs)); clear hs fc p0 p1 p2 p3 p4 p5 p6 p7; obtain ⟨b2, o2, e2, -, p0, p1, p2, p3, p4, p5, p6, p7⟩ := (HT.out.keep h0.out).cells Hx.out; cases e2)
      all_goals
        rcases htx with ⟨r1, i, y, r2, r3, r4, r5⟩ | ⟨r1, r2⟩ | ⟨r1, r2, r3⟩
      all_goals first
        | (rw [Prod.mk.injEq] at r5
           obtain ⟨rfl, rfl⟩ := r5
           obtain ⟨b3, o3, e3, -, o0, o1, o2, o3, o4, o5, o6, o7⟩ := (HT.out.keep h0.out).cells r3
           cases e3
           have hij : i < j := by have := (List.getElem?_eq_some_iff.1 r3).1; have := Hn.out; omega
           have g1 : ((x.kind.toNat : Int) == 49) = true := by rw [r1]; rfl
           have g2 : ((y.kind.toNat : Int) == 48) = true := by rw [r4]; rfl
           have Hfind : Hid (Tree.findV t x.link = (i : Int)) := Lib.hid (by rw [Tree.findV, r2])
           have g3 : decide ((i : Int) < 0) = false := decide_eq_false (by omega)
           have g4 : decide ((j : Int) ≤ (i : Int)) = false := decide_eq_false (by omega)
           have g6 : ¬ j ≤ i := by omega
           have Hr3 := Lib.hid r3
           clear r1 r2 r3 r4
           go_wp2_with (go_at_call 29; (with_reducible refine (tfind_n t j Hn.out Hl.out x.link (i : Int) Hfind.out _ c _ (HT.out.keep h0.out)).mono ?_); rintro e wd ⟨rfl, hs⟩; replace h0 := Lib.hid (Stp.trans h0.out hs); clear hs p0 p1 p2 p3 p4 p5 p6 p7 o0 o1 o2 o3 o4 o5 o6 o7; obtain ⟨b4, o4, e4, -, o0, o1, o2, o3, o4, o5, o6, o7⟩ := (HT.out.keep h0.out).cells Hr3.out; cases e4)
           go_ret
           exact ⟨rfl, h0.out⟩)
        | (rw [Prod.mk.injEq] at r2
           obtain ⟨rfl, rfl⟩ := r2
           have g1 : ((x.kind.toNat : Int) == 49) = false := by rw [r1]; rfl
           have g2 : ((x.kind.toNat : Int) == 48) = true := by rw [r1]; rfl
           clear r1
           go_wp2
           go_ret
           exact ⟨rfl, h0.out⟩)
        | (rw [Prod.mk.injEq] at r3
           obtain ⟨rfl, rfl⟩ := r3
           have g1 : ((x.kind.toNat : Int) == 49) = false := beq_eq_false_iff_ne.2 (fun e => r1 (UInt8.toNat_inj.1 (by have h : (49 : UInt8).toNat = 49 := rfl; omega)))
           have g2 : ((x.kind.toNat : Int) == 48) = false := beq_eq_false_iff_ne.2 (fun e => r2 (UInt8.toNat_inj.1 (by have h : (48 : UInt8).toNat = 48 := rfl; omega)))
           have g3 : ((x.kind.toNat : Int) != 48) = true := by rw [bne, g2]; rfl
           clear r1 r2
           go_wp2
           go_ret
           exact ⟨rfl, h0.out⟩)
theorem tree_walk (I : FsI) (hA : ∀ w : World, Calls Try.prog 9 #[] w fun e w' => e = .returned (.bool true) ∧ Stp w w') (t : List Nd) (n : Nat) (hn : t.length = n) (hn9 : n < 9223372036854775808) (hs : ∀ x ∈ t, SmallN x) (A : Option Addr) (c : Nat) (kk : Int) (w : World) (ha : RdN w A c t) :
    Calls Try.prog 7 #[.slice A n c, .int .i64 kk] w fun e w' => e = .returned (.bool true) ∧ Stp w w' := by
  by_cases h : fewT t = true ∧ mayT t = true
  · exact tree_in I hA t n hn hn9 hs A c kk w ha h.1 h.2
  · refine tree_out I hA t n hn hn9 hs A c kk w ha _ _ rfl rfl ?_
    cases h1 : fewT t <;> cases h2 : mayT t <;> simp_all
end Go.Proofs.Ytjddgmdbgajjpaa.Fs
