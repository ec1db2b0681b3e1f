/-
  The document's own answers for package cont: one try: no statement is proved here.
-/
import Derived.Test.YtagkdodjffhlmaaGreatContRef
import Derived.Test.YtagkdodjffhlmaaGreatEntrySl
import Derived.Deep.Cut
namespace Go.Proofs.YtagkdodjffhlmaaGreat.Cont
open Go.RowKit Go.Proofs.YtagkdodjffhlmaaGreat.Str Go.Proofs.YtagkdodjffhlmaaGreat.Base Go.Proofs.YtagkdodjffhlmaaGreat.Node Go.Proofs.YtagkdodjffhlmaaGreat.Head Go.Proofs.YtagkdodjffhlmaaGreat.Long Go.Proofs.YtagkdodjffhlmaaGreat.ContM
open Go.Proofs.YtagkdodjffhlmaaGreat.Tree (oneB)
set_option linter.unusedVariables false

set_option maxRecDepth 100000 in
set_option maxHeartbeats 4000000 in
theorem rctry_no (ls : List L) (A : Option Addr) (c : Nat) (w : World) (ha : RdL w A c ls) (N : Nat) (hN : ls.length = N) (j : Nat) (l : L) (hl : ls[j]? = some l) (kk : Int) (hkk : kk - 1 = (j : Int)) (k3 : kk ≤ 3) (p : L)
    (hno : codeB l ≠ 0 ∨ (getH l).ty ≠ 77 ∨ 4000 < (getH l).real) :
    Calls Tryz.prog 31 #[.slice A N c, .int .i64 kk, .string ⟨p.toArray⟩] w fun e w' => e = .returned (.tuple #[nv zeroN, .int .i64 0, .int .i64 0, .int .i64 0, .bool false]) ∧ Stp w w' := by
  have h0 := Stp.alloc (Stp.refl w) (.cells (ncells zeroN) 23)
  have Hz := Lib.hid (Blk.new w 23 (ncells zeroN))
  obtain ⟨b, o, A1, cap1, rfl, hcell0, hR⟩ := (ha.keep h0).at_ hl
  have hcell : (w.alloc (.cells #[.string ⟨#[]⟩, .string ⟨#[]⟩, .int .u8 0, .int .i64 0, .int .i64 0, .int .i64 0, .int .i64 0, .string ⟨#[]⟩] 23)).cell? ⟨b, o + j, none⟩ = some (.slice A1 l.length cap1) := hcell0
  clear hcell0
  have hjN : j < N := by rw [← hN]; exact (List.getElem?_eq_some_iff.1 hl).1
  have g0 : 0 ≤ (j : Int) := by omega
  have g1 : (j : Int) < (N : Int) := by omega
  have g2 : 1 ≤ kk := by omega
  obtain ⟨G, hG⟩ : ∃ G, getH l = G := ⟨_, rfl⟩
  obtain ⟨cd, hcd⟩ : ∃ cd, codeB l = cd := ⟨_, rfl⟩
  rw [hG, hcd] at hno
  have key : (cd != 0) = true ∨ ((cd != 0) = false ∧ ((G.ty.toNat : Int) != 77) = true) ∨ ((cd != 0) = false ∧ ((G.ty.toNat : Int) != 77) = false ∧ decide (4000 < G.real) = true) := by
    have e77 : ((G.ty.toNat : Int) == 77) = decide (G.ty = 77) := ty_eq G.ty 77 (by omega)
    by_cases h1 : cd = 0
    · by_cases h2 : G.ty = 77
      · exact .inr (.inr ⟨by simp [h1], by rw [bne, e77, decide_eq_true h2]; rfl, decide_eq_true ((hno.resolve_left (by simp [h1])).resolve_left (by simp [h2]))⟩)
      · exact .inr (.inl ⟨by simp [h1], by rw [bne, e77, decide_eq_false h2]; rfl⟩)
    · exact .inl (by simp [h1])
  have HG := Lib.hid hG
  have Hc := Lib.hid hcd
  have HR := Lib.hid hR
  clear ha hl hN hG hcd hno hR hjN
  rcases key with k1 | ⟨k1, k2⟩ | ⟨k1, k2, k4⟩
  all_goals
    go_enter Tryz.func31, Tryz.ntmps31
    go_wp2_with (go_at_call 55; refine (rGet_s l A1 cap1 _ HR.out).mono ?_; rintro e w1 ⟨rfl, hs⟩; rw [HG.out, Hc.out]; replace h0 := Stp.alloc (Stp.trans h0 hs) (.cells (hcells G) 40); replace Hz := Lib.hid ((Hz.out.keep hs Hz.out.lt).alloc (.cells (hcells G) 40)); obtain ⟨x0, x1, x2, x3, x4, x5, x6, x7, x8, x9, x10⟩ := hd_cells (Blk.new w1 40 (hcells G)); obtain ⟨⟨z0, z1, z2, z3, z4, z5, z6, z7⟩, y0, y1, y2, y3, y4, y5, y6, y7⟩ := nzy Hz.out; clear hs hcell)
    have hf := filln_blk zeroN Hz.out
    have hst := filln_stp zeroN h0 (Nat.le_refl w.heap.size)
    change bodyPost _ _ _ _ _ (fillN (w1.alloc (.cells (hcells G) 40)) w.heap.size zeroN)
    generalize fillN (w1.alloc (.cells (hcells G) 40)) w.heap.size zeroN = W at hf hst ⊢
    clear z0 z1 z2 z3 z4 z5 z6 z7 y0 y1 y2 y3 y4 y5 y6 y7
    obtain ⟨z0, z1, z2, z3, z4, z5, z6, z7⟩ := nd_cells hf
    refine bodyPost_ret (v := .tuple #[nv zeroN, .int .i64 0, .int .i64 0, .int .i64 0, .bool false]) (by simp [results, Tryz.results31, go_sem, *]) rfl ⟨rfl, hst⟩
theorem ok_blk {l : L} (h : codeB l = 0) : mayH (getH l) = true ∧ blk (getH l) = l ∧ l.length = 512 := by
  unfold getH
  rw [if_pos h]
  unfold codeB at h
  split at h
  · rename_i h1
    split at h
    · cases h
    · split at h
      · split at h
        · rename_i h4
          exact ⟨h4.1, h4.2, h1⟩
        · cases h
      · cases h
  · cases h
theorem rsame_v (ls ms : List L) (j k : Nat) (hj : ls.length = j) (hk : ms.length = k) (A B : Option Addr) (c d : Nat) (w : World) (ha : RdL w A c ls) (hb : RdL w B d ms) (hl : j < 9223372036854775808) (hm : k < 9223372036854775808) (b : Bool) (hb' : (ls == ms) = b) :
    Calls Tryz.prog 11 #[.slice A j c, .slice B k d] w fun e w' => e = .returned (.bool b) ∧ Stp w w' := by
  subst hj hk hb'
  exact Block.rsame_s ls ms A B c d w ha hb hl hm
theorem rcput_v (n : Nd) (v : Value) (hv : v = nv n) (hn : SmallN n) (off : Int) (ls : List L) (hls : putC n off = ls) (z : Nat) (hz : ls.length = z) (b : Bool) (hb : mayC n off = b) (w : World) :
    Calls Tryz.prog 8 #[v, .int .i64 off] w fun e w' => ∃ A c, e = .returned (.tuple #[.slice A z c, .bool b]) ∧ RdL w' A c ls ∧ Stp w w' := by
  subst hv
  exact rcput_s n hn off ls hls z hz b hb w
/-- What a header of a file that goes on tells, in numbers. -/
theorem got_small {l : L} (hc : codeB l = 0) (ht : (getH l).ty = 77) : SmallH (getH l) ∧ 0 ≤ (getH l).real := by
  obtain ⟨h1, h2, h3⟩ := ok_blk hc
  refine ⟨by rw [getH, if_pos hc]; exact small_guess h3, ?_⟩
  have hn : numsOk (getH l) = true := by
    unfold mayH at h1
    simp only [Bool.and_eq_true] at h1
    exact h1.2
  unfold numsOk at hn
  rw [ht] at hn
  simp only [Bool.and_eq_true, decide_true, Bool.not_true, Bool.false_or] at hn
  exact (Num.putOk_iff.1 hn.2.2).1
def ansT (b : Bool) (n : Nd) (off whole k : Int) : Value := if b = true then .tuple #[nv n, .int .i64 off, .int .i64 whole, .int .i64 k, .bool true] else .tuple #[nv zeroN, .int .i64 0, .int .i64 0, .int .i64 0, .bool false]
set_option maxRecDepth 100000 in
set_option maxHeartbeats 4000000 in
theorem rctry_yes (ls : List L) (A : Option Addr) (c : Nat) (w : World) (ha : RdL w A c ls) (N : Nat) (hN : ls.length = N) (j : Nat) (l : L) (hl : ls[j]? = some l) (kk : Int) (hkk : kk - 1 = (j : Int)) (k3 : kk ≤ 3) (p : L) (hp : p.length ≤ 1000)
    (hc : codeB l = 0) (ht : (getH l).ty = 77) (hr : (getH l).real ≤ 4000) (u : L) (hu : nameC (getH l) p = u) (R : Nat) (hR : (getH l).real = (R : Int))
    (P : List L) (hP : putC (withN (nodeC (getH l) u) R) (getH l).off = P) (z : Nat) (hz : P.length = z) (mb sm : Bool) (hmb : mayC (withN (nodeC (getH l) u) R) (getH l).off = mb) (hsame : (P == ls.take (j + 1)) = sm) :
    Calls Tryz.prog 31 #[.slice A N c, .int .i64 kk, .string ⟨p.toArray⟩] w fun e w' => e = .returned (ansT (mb && sm) (nodeC (getH l) u) (getH l).off (R : Int) kk) ∧ Stp w w' := by
  obtain ⟨hsm, h00⟩ := got_small hc ht
  have h0 := Stp.alloc (Stp.refl w) (.cells (ncells zeroN) 23)
  have Hz := Lib.hid (Blk.new w 23 (ncells zeroN))
  have HL := Lib.hid ha
  have hz3 : z < 9223372036854775808 := by
    rw [← hz, ← hP, putC]
    split
    · rw [List.length_append, aheadC_length]
      split <;> simp
    · simp
  obtain ⟨b, o, A1, cap1, rfl, hcell0, hRd⟩ := (ha.keep h0).at_ hl
  have hcell : (w.alloc (.cells #[.string ⟨#[]⟩, .string ⟨#[]⟩, .int .u8 0, .int .i64 0, .int .i64 0, .int .i64 0, .int .i64 0, .string ⟨#[]⟩] 23)).cell? ⟨b, o + j, none⟩ = some (.slice A1 l.length cap1) := hcell0
  clear hcell0
  have hjN : j < N := by rw [← hN]; exact (List.getElem?_eq_some_iff.1 hl).1
  have g0 : 0 ≤ (j : Int) := by omega
  have g1 : (j : Int) < (N : Int) := by omega
  have g2 : 1 ≤ kk := by omega
  have hNc : N ≤ c := by
    obtain ⟨us, e1, e2, -⟩ := ha
    obtain ⟨A', cap', e3, e4, -⟩ := e2
    cases e3
    omega
  have hus : u.length ≤ 1000 := by
    rw [← hu, nameC]
    split
    · have := okT_le (by
        have h1 := (ok_blk hc).1
        unfold mayH txtsOk at h1
        simp only [Bool.and_eq_true] at h1
        exact h1.1.2.1.1 : okT (getH l).name 100 = true)
      omega
    · exact hp
  obtain ⟨G, hG⟩ : ∃ G, getH l = G := ⟨_, rfl⟩
  rw [hG] at hsm h00 ht hr hu hR hP hmb ⊢
  have hM : SmallN (withN (nodeC G u) R) := by
    constructor
    · show u.length ≤ _
      omega
    · show ([] : L).length ≤ _
      simp
    · exact hsm.mode
    · exact hsm.uid
    · exact hsm.gid
    · exact hsm.time
    · show (List.replicate R (0 : UInt8)).length ≤ _
      rw [List.length_replicate]
      omega
  have key : ((p == []) = true ∧ G.name = u) ∨ ((p == []) = false ∧ u = p) := by
    rw [nameC] at hu
    split at hu
    · rename_i e
      exact .inl ⟨by simp [e], hu⟩
    · rename_i e
      exact .inr ⟨by simpa using e, hu.symm⟩
  have k1 : ((0 : Int) != 0) = false := rfl
  have k2 : ((G.ty.toNat : Int) != 77) = false := by rw [ht]; rfl
  have k4 : decide (4000 < G.real) = false := decide_eq_false (by omega)
  have HG := Lib.hid hG
  have Hc := Lib.hid hc
  have HR := Lib.hid hRd
  have HM := Lib.hid hM
  have Hr := Lib.hid hR
  have Hr4 := Lib.hid (show R ≤ 4000 by omega)
  have Hj := Lib.hid (show j + 1 ≤ c by omega)
  have HjN := Lib.hid hjN
  obtain ⟨t, hrep⟩ : ∃ t : L, List.replicate R 0 = t := ⟨_, rfl⟩
  have Ht := Lib.hid hrep
  have HNj := Lib.hid (show (ls.take (j + 1)).length = j + 1 by rw [List.length_take]; omega)
  have HP := Lib.hid hP
  have HPz := Lib.hid hz
  have Hz3 := Lib.hid hz3
  have Hmb := Lib.hid hmb
  have Hsame := Lib.hid hsame
  have hkj : kk = ((j + 1 : Nat) : Int) := by omega
  have csl : ∀ w, (Instr.slice 24 (.slice (some ⟨b, o, none⟩) N c) none (some (.int .i64 kk)) none).run Tryz.prog w = .ok (.slice (some ⟨b, o, none⟩) (j + 1) c) w := fun w => by rw [hkj]; exact Entry.slice_to b o N c (j + 1) (by omega) w
  have Hj1 := Lib.hid (show j + 1 < 9223372036854775808 by omega)
  have Hkj := Lib.hid hkk
  clear hrep ha hl hN hG hc hRd hjN hp ht hr hu hR hsm h00 hNc hus hM hP hz hz3 hmb hsame hkj
  have key2 : ((p == []) = true ∧ Hid (G.name = u)) ∨ ((p == []) = false ∧ u = p) := key.imp (fun h => ⟨h.1, Lib.hid h.2⟩) id
  clear key
  rcases key2 with ⟨k5, HU⟩ | ⟨k5, rfl⟩
  all_goals
    go_enter Tryz.func31, Tryz.ntmps31
    go_upto_region 6 with (go_at_call 55; refine (rGet_s l A1 cap1 _ HR.out).mono ?_; rintro e w1 ⟨rfl, hs⟩; rw [HG.out, Hc.out]; have hgw := (Hz.out.keep hs Hz.out.lt).lt; replace h0 := Stp.alloc (Stp.trans h0 hs) (.cells (hcells G) 40); replace Hz := Lib.hid ((Hz.out.keep hs Hz.out.lt).alloc (.cells (hcells G) 40)); have HH := Lib.hid (Blk.new w1 40 (hcells G)); obtain ⟨x0, x1, x2, x3, x4, x5, x6, x7, x8, x9, x10⟩ := hd_cells HH.out; (try rw [HU.out] at x0); clear hs hcell)
  all_goals
    obtain ⟨g1', hg1⟩ : ∃ x, w1.heap.size = x := ⟨_, rfl⟩
    obtain ⟨W1, hW1⟩ : ∃ z, w1.alloc (.cells (hcells G) 40) = z := ⟨_, rfl⟩
    rw [hW1] at h0 Hz HH x0 x1 x2 x3 x4 x5 x6 x7 x8 x9 x10 ⊢
    rw [hg1] at hgw HH x0 x1 x2 x3 x4 x5 x6 x7 x8 x9 x10 ⊢
    clear hg1 hW1
    go_upto_region 8 with fail
  all_goals
    clear x0 x1 x2 x3 x4 x5 x6 x7 x8 x9 x10
    have h13 := (Blk.new W1 23 (ncells (nodeC G u))).alloc (.cells (ncells (nodeC G u)) 23)
    have h14 := Blk.new (W1.alloc (.cells (ncells (nodeC G u)) 23)) 23 (ncells (nodeC G u))
    rw [World.size_alloc] at h14
    have hs2 := Stp.alloc (Stp.alloc (Stp.refl W1) (.cells (ncells (nodeC G u)) 23)) (.cells (ncells (nodeC G u)) 23)
    have hgz := Hz.out.lt
    have hgh := HH.out.lt
    change Code.wp _ _ _ _ ((W1.alloc (.cells (ncells (nodeC G u)) 23)).alloc (.cells (ncells (nodeC G u)) 23))
    obtain ⟨W2, hW2⟩ : ∃ z, (W1.alloc (.cells (ncells (nodeC G u)) 23)).alloc (.cells (ncells (nodeC G u)) 23) = z := ⟨_, rfl⟩
    rw [hW2] at h13 h14 hs2 ⊢
    replace HH := Lib.hid (HH.out.keep hs2 HH.out.lt)
    replace Hz := Lib.hid (Hz.out.keep hs2 Hz.out.lt)
    replace h0 := Lib.hid (Stp.trans h0 hs2)
    obtain ⟨g13, hg13⟩ : ∃ x, W1.heap.size = x := ⟨_, rfl⟩
    rw [hg13] at h13 h14 hgz hgh ⊢
    have H13 := Lib.hid h13
    have H14 := Lib.hid h14
    obtain ⟨x0, x1, x2, x3, x4, x5, x6, x7, x8, x9, x10⟩ := hd_cells HH.out
    rw [Hr.out] at x10
    clear hs2 hW2 hg13 h13 h14 x0 x1 x2 x3 x4 x5 x6 x7 x8 x9
    go_upto_region 9 with (at_make; refine wpList_make_blk _ rfl _ _ 36 rfl 5 (.int .u8 0) 1 Tryz.underlying36 Block.byte_info rfl .i64 .i64 (R : Int) R rfl rfl rfl (by have := Hr4.out; omega) (by have := Hr4.out; unfold maxLen; omega) ?_; intro w3 hb3 hs3 hg3; have hcv := nou_conv R (Nat.le_trans Hr4.out (by omega)) Ht.out hb3; have hst := made_stp hg3; replace h0 := Lib.hid (Stp.trans h0.out hst); replace HH := Lib.hid (HH.out.keep hst HH.out.lt); replace Hz := Lib.hid (Hz.out.keep hst Hz.out.lt); replace H13 := Lib.hid (H13.out.keep hst H13.out.lt); replace H14 := Lib.hid (H14.out.keep hst H14.out.lt); obtain ⟨⟨z0, z1, z2, z3, z4, z5, z6, z7⟩, y0, y1, y2, y3, y4, y5, y6, y7⟩ := nzy H14.out; clear hb3 hs3 hg3 hst x10)
  all_goals
    have q1 := H13.out.far (p := ⟨g13 + 1, 7, none⟩) (by show g13 ≠ g13 + 1; omega) (.string ⟨t.toArray⟩)
    have q2 := H14.out.put 7 (.string ⟨t.toArray⟩)
    rw [show (ncells (nodeC G u)).setIfInBounds 7 (.string ⟨t.toArray⟩) = ncells (withN (nodeC G u) R) by rw [← Ht.out]; rfl] at q2
    have q3 := HH.out.far (p := ⟨g13 + 1, 7, none⟩) (by show g1' ≠ g13 + 1; omega) (.string ⟨t.toArray⟩)
    have q4 := Hz.out.far (p := ⟨g13 + 1, 7, none⟩) (by show w.heap.size ≠ g13 + 1; omega) (.string ⟨t.toArray⟩)
    have q5 := set_stp h0.out (show w.heap.size ≤ g13 + 1 by omega) 7 (.string ⟨t.toArray⟩)
    clear z0 z1 z2 z3 z4 z5 z6 z7 y0 y1 y2 y3 y4 y5 y6 y7 hcv
    generalize w3.setCell ⟨g13 + 1, 7, none⟩ (.string ⟨t.toArray⟩) = W4 at q1 q2 q3 q4 q5 ⊢
    replace H13 := Lib.hid q1
    replace H14 := Lib.hid q2
    replace HH := Lib.hid q3
    replace Hz := Lib.hid q4
    replace h0 := Lib.hid q5
    clear q1 q2 q3 q4 q5
    obtain ⟨x0, x1, x2, x3, x4, x5, x6, x7, x8, x9, x10⟩ := hd_cells HH.out
    obtain ⟨z0, z1, z2, z3, z4, z5, z6, z7⟩ := nd_cells H14.out
    clear x0 x1 x2 x3 x4 x5 x6 x7 x8 x10
    go_upto_region 11 with (first
      | (go_at_call 8; refine (rcput_v (withN (nodeC G u) R) _ rfl HM.out G.off P HP.out z HPz.out mb Hmb.out _).mono ?_; rintro e w5 ⟨A5, c5, rfl, hr, hs⟩; replace h0 := Lib.hid (Stp.trans h0.out hs); replace HH := Lib.hid (HH.out.keep hs HH.out.lt); replace Hz := Lib.hid (Hz.out.keep hs Hz.out.lt); replace H13 := Lib.hid (H13.out.keep hs H13.out.lt); have HR5 := Lib.hid hr; clear hr hs x9 z0 z1 z2 z3 z4 z5 z6 z7)
      | (go_at_call 11; refine (rsame_v P (ls.take (j + 1)) z (j + 1) HPz.out HNj.out A5 _ c5 c _ HR5.out (Entry.rdL_take (HL.out.keep h0.out) (j + 1)) Hz3.out Hj1.out sm Hsame.out).mono ?_; rintro e w6 ⟨rfl, hs⟩; replace h0 := Lib.hid (Stp.trans h0.out hs); replace HH := Lib.hid (HH.out.keep hs HH.out.lt); replace Hz := Lib.hid (Hz.out.keep hs Hz.out.lt); replace H13 := Lib.hid (H13.out.keep hs H13.out.lt); clear hs))
  all_goals
    obtain ⟨⟨z0, z1, z2, z3, z4, z5, z6, z7⟩, y0, y1, y2, y3, y4, y5, y6, y7⟩ := nzy Hz.out
    obtain ⟨x0, x1, x2, x3, x4, x5, x6, x7, x8, x9, x10⟩ := hd_cells HH.out
    obtain ⟨q0, q1, q2, q3, q4, q5, q6, q7⟩ := nd_cells H13.out
    have X10 := Hr.out
    rw [X10] at x10
    have h0' := h0.out
    by_cases hok : (mb && sm) = true
    · rw [Bool.and_eq_true] at hok
      obtain ⟨rfl, rfl⟩ := hok
      clear x0 x1 x2 x3 x4 x5 x6 x7 x8 X10
      go_wp2
      have hf := filln_blk (nodeC G u) Hz.out
      have hst := filln_stp (nodeC G u) h0' (Nat.le_refl w.heap.size)
      go_region
      change Exit.then _ _ Exit.normal _ (fillN w6 w.heap.size (nodeC G u)).drew
      generalize fillN w6 w.heap.size (nodeC G u) = W at hf hst ⊢
      clear z0 z1 z2 z3 z4 z5 z6 z7 y0 y1 y2 y3 y4 y5 y6 y7 q0 q1 q2 q3 q4 q5 q6 q7 x9 x10
      obtain ⟨z0, z1, z2, z3, z4, z5, z6, z7⟩ := nd_cells hf.drew
      go_wp2
      refine bodyPost_ret (v := .tuple #[nv (nodeC G u), .int .i64 G.off, .int .i64 (R : Int), .int .i64 kk, .bool true]) (by simp [results, Tryz.results31, go_sem, *]) rfl ⟨rfl, hst.drewN 1⟩
    · have hno : (mb = false) ∨ (mb = true ∧ sm = false) := by
        cases mb <;> cases sm <;> simp_all
      have hans : ansT (mb && sm) (nodeC G u) G.off (R : Int) kk = .tuple #[nv zeroN, .int .i64 0, .int .i64 0, .int .i64 0, .bool false] := by rw [ansT, if_neg hok]
      have hf := filln_blk zeroN Hz.out
      have hst := filln_stp zeroN h0' (Nat.le_refl w.heap.size)
      have Hans := Lib.hid hans
      clear x0 x1 x2 x3 x4 x5 x6 x7 x8 x9 x10 q0 q1 q2 q3 q4 q5 q6 q7 X10 hok hans
      rcases hno with rfl | ⟨rfl, rfl⟩
      all_goals
        go_wp2
        change bodyPost _ _ _ _ _ (fillN w6 w.heap.size zeroN)
        generalize fillN w6 w.heap.size zeroN = W at hf hst ⊢
        clear z0 z1 z2 z3 z4 z5 z6 z7 y0 y1 y2 y3 y4 y5 y6 y7
        obtain ⟨z0, z1, z2, z3, z4, z5, z6, z7⟩ := nd_cells hf
        refine bodyPost_ret (v := .tuple #[nv zeroN, .int .i64 0, .int .i64 0, .int .i64 0, .bool false]) (by simp [results, Tryz.results31, go_sem, *]) rfl ⟨by rw [Hans.out], hst⟩
theorem rctry_s (ls : List L) (A : Option Addr) (c : Nat) (w : World) (ha : RdL w A c ls) (N : Nat) (hN : ls.length = N) (j : Nat) (l : L) (hl : ls[j]? = some l) (kk : Int) (hkk : kk - 1 = (j : Int)) (k3 : kk ≤ 3) (p : L) (hp : p.length ≤ 1000)
    (m : Nd) (off whole k : Int) (b : Bool) (h : tryC ls (j + 1) p = (m, off, whole, k, b)) :
    Calls Tryz.prog 31 #[.slice A N c, .int .i64 kk, .string ⟨p.toArray⟩] w fun e w' => e = .returned (.tuple #[nv m, .int .i64 off, .int .i64 whole, .int .i64 k, .bool b]) ∧ Stp w w' := by
  have hd : ls.getD (j + 1 - 1) [] = l := by rw [Nat.add_sub_cancel, List.getD_eq_getElem?_getD, hl]; rfl
  rw [tryC, hd] at h
  by_cases hno : codeB l ≠ 0 ∨ (getH l).ty ≠ 77 ∨ 4000 < (getH l).real
  · rw [if_pos hno, none5] at h
    rw [Prod.mk.injEq, Prod.mk.injEq, Prod.mk.injEq, Prod.mk.injEq] at h
    obtain ⟨rfl, rfl, rfl, rfl, rfl⟩ := h
    exact rctry_no ls A c w ha N hN j l hl kk hkk k3 p hno
  · rw [if_neg hno] at h
    rw [not_or, not_or] at hno
    obtain ⟨h1, h2, h3⟩ := hno
    have hc : codeB l = 0 := by simpa using h1
    have ht : (getH l).ty = 77 := by simpa using h2
    have hR : (getH l).real = ((getH l).real.toNat : Int) := by
      have := (got_small hc ht).2
      omega
    refine (rctry_yes ls A c w ha N hN j l hl kk hkk k3 p hp hc ht (by omega) _ rfl _ hR _ rfl _ rfl _ _ rfl rfl).mono ?_
    rintro e w' ⟨rfl, hs⟩
    refine ⟨?_, hs⟩
    by_cases hok : mayC (withN (nodeC (getH l) (nameC (getH l) p)) (getH l).real.toNat) (getH l).off = true ∧ putC (withN (nodeC (getH l) (nameC (getH l) p)) (getH l).real.toNat) (getH l).off = ls.take (j + 1)
    · rw [if_pos hok] at h
      rw [Prod.mk.injEq, Prod.mk.injEq, Prod.mk.injEq, Prod.mk.injEq] at h
      obtain ⟨rfl, rfl, rfl, rfl, rfl⟩ := h
      rw [ansT, if_pos (by rw [hok.1, hok.2]; simp), ← hR]
      rw [show kk = ((j + 1 : Nat) : Int) by omega]
    · rw [if_neg hok, none5] at h
      rw [Prod.mk.injEq, Prod.mk.injEq, Prod.mk.injEq, Prod.mk.injEq] at h
      obtain ⟨rfl, rfl, rfl, rfl, rfl⟩ := h
      rw [ansT, if_neg (by
        intro e
        rw [Bool.and_eq_true] at e
        exact hok ⟨e.1, eq_of_beq e.2⟩)]
end Go.Proofs.YtagkdodjffhlmaaGreat.Cont
