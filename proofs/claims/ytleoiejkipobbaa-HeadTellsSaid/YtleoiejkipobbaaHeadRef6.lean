/-
  The document's own answers for package head: Get; no statement is proved here.
-/
import Derived.Test.YtleoiejkipobbaaHeadRef5
import Derived.Test.YtleoiejkipobbaaBlockRef
namespace Go.Proofs.Ytleoiejkipobbaa.Head
open Go.RowKit Go.Proofs.Ytleoiejkipobbaa.Base Go.Proofs.Ytleoiejkipobbaa.NumM Go.Proofs.Ytleoiejkipobbaa.Num

set_option linter.unusedSimpArgs false
set_option maxHeartbeats 1000000 in
set_option maxRecDepth 100000 in
theorem rGet_arg (l : L) (A : Option Addr) (c : Nat) (w : World) (h512 : l.length ≠ 512) :
    Calls Try.prog 16 #[.slice A l.length c] w fun e w' => e = .returned (.tuple #[hv zeroH, .int .i64 1]) ∧ Stp w w' := by
  have h0 := Stp.refl w
  have g0 : ((l.length : Int) != 512) = true := by simp; omega
  clear h512
  go_enter Try.func16, Try.ntmps16
  go_wp2_with fail
  have hf := Blk.new w 23 (hcells zeroH)
  have hst := Stp.alloc h0 (.cells (hcells zeroH) 23)
  obtain ⟨gz, hgz⟩ : ∃ x, w.heap.size = x := ⟨_, rfl⟩
  rw [hgz] at hf
  change bodyPost _ _ _ _ _ (w.alloc (.cells (hcells zeroH) 23))
  generalize w.alloc (.cells (hcells zeroH) 23) = W at hf hst ⊢
  obtain ⟨p0, p1, p2, p3, p4, p5, p6, p7, p8, p9, p10⟩ := hd_cells hf
  refine bodyPost_ret (v := .tuple #[hv zeroH, .int .i64 1]) (by simp [results, Try.results16, go_sem, *]) rfl ⟨rfl, hst⟩

set_option maxHeartbeats 1000000 in
set_option maxRecDepth 100000 in
theorem rGet_zero (l : L) (A : Option Addr) (c : Nat) (w : World) (ha : RdA w A c (bs l)) (h512 : l.length = 512) (hz : zeroV l = true) :
    Calls Try.prog 16 #[.slice A l.length c] w fun e w' => e = .returned (.tuple #[hv zeroH, .int .i64 4]) ∧ Stp w w' := by
  have h0 := Stp.refl w
  have g0 : ((l.length : Int) != 512) = false := by simp; omega
  have Hl := Lib.hid (show l.length < 9223372036854775808 by omega)
  have Hz := Lib.hid hz
  have Hb0 := Lib.hid (Blk.new w 23 (hcells zeroH))
  have Ha := Lib.hid (ha.keep (Stp.alloc h0 (.cells (hcells zeroH) 23)))
  obtain ⟨gz, hgz⟩ : ∃ x, w.heap.size = x := ⟨_, rfl⟩
  rw [hgz] at Hb0
  clear h512 hz ha
  go_enter Try.func16, Try.ntmps16
  go_wp2_with (first
    | (go_at_call 52; refine (rzero_s l _ _ _ Ha.out Hl.out).mono ?_; rintro e w1 ⟨rfl, hs⟩; rw [Hz.out]; have Hb1 := Lib.hid (Hb0.out.keep hs Hb0.out.lt); have H1 := Lib.hid (Stp.trans (Stp.alloc h0 _) hs); clear hs; obtain ⟨⟨z0, z1, z2, z3, z4, z5, z6, z7, z8, z9, z10⟩, ⟨y0, y1, y2, y3, y4, y5, y6, y7, y8, y9, y10⟩⟩ := zy Hb1.out))
  have hf := fill_blk zeroH Hb1.out
  have hst := fill_stp (g := gz) zeroH H1.out (by omega)
  change bodyPost _ _ _ _ _ (fillW w1 gz zeroH)
  generalize fillW w1 gz zeroH = W at hf hst ⊢
  clear z0 z1 z2 z3 z4 z5 z6 z7 z8 z9 z10 y0 y1 y2 y3 y4 y5 y6 y7 y8 y9 y10
  obtain ⟨p0, p1, p2, p3, p4, p5, p6, p7, p8, p9, p10⟩ := hd_cells hf
  refine bodyPost_ret (v := .tuple #[hv zeroH, .int .i64 4]) (by simp [results, Try.results16, go_sem, *]) rfl ⟨rfl, hst⟩

set_option maxHeartbeats 1000000 in
set_option maxRecDepth 100000 in
theorem rGet_sum (l : L) (A : Option Addr) (c : Nat) (w : World) (ha : RdA w A c (bs l)) (h512 : l.length = 512) (hz : zeroV l = false) (hne : sub l 148 8 ≠ sumT l) :
    Calls Try.prog 16 #[.slice A l.length c] w fun e w' => e = .returned (.tuple #[hv zeroH, .int .i64 3]) ∧ Stp w w' := by
  have h0 := Stp.refl w
  have g0 : ((l.length : Int) != 512) = false := by simp; omega
  have Hl := Lib.hid (show l.length < 9223372036854775808 by omega)
  have Hz := Lib.hid hz
  have Hb0 := Lib.hid (Blk.new w 23 (hcells zeroH))
  have Ha := Lib.hid (ha.keep (Stp.alloc h0 (.cells (hcells zeroH) 23)))
  obtain ⟨gz, hgz⟩ : ∃ x, w.heap.size = x := ⟨_, rfl⟩
  rw [hgz] at Hb0
  have H512 := Lib.hid h512
  obtain ⟨b, o, rfl, hcell⟩ := ha.at_ (j := 0) (by rw [bs_length]; omega)
  have hcl := ha.length_le
  rw [bs_length] at hcl
  have hsl := slice148 b o l.length c (by omega)
  have hsl2 := sliceAt148 b o l.length c (by omega)
  obtain ⟨T, hT⟩ : ∃ T, sub l 148 8 = T := ⟨_, rfl⟩
  obtain ⟨S, hS⟩ : ∃ S, sumT l = S := ⟨_, rfl⟩
  have HS := Lib.hid hS
  have hcv : ∀ W, Stp w W → (convert 24 9 (.slice (some ⟨b, o + 148, none⟩) 8 (c - 148))).run Try.prog W = .ok (.string ⟨T.toArray⟩) W := fun W hW => by
    rw [← hT]
    exact Num.str_of W _ _ _ (rd_sub (ha.keep hW) (i := 148) (n := 8) (by omega))
  have Hcv := Lib.hid hcv
  rw [hT, hS] at hne
  have hq : (T == S) = false := beq_eq_false_iff_ne.2 hne
  clear h512 hz ha hcell hcl hcv hT hS hne
  go_enter Try.func16, Try.ntmps16
  go_wp2_with (first
    | (go_at_call 52; refine (rzero_s l _ _ _ Ha.out Hl.out).mono ?_; rintro e w1 ⟨rfl, hs⟩; rw [Hz.out]; have Hb1 := Lib.hid (Hb0.out.keep hs Hb0.out.lt); have H1 := Lib.hid (Stp.trans (Stp.alloc h0 _) hs); have Ha1 := Lib.hid (Ha.out.keep hs); clear hs))
  refine wp_region_held_drew (S := (fun W : World => (convert 24 9 (.slice (some ⟨b, o + 148, none⟩) 8 (c - 148))).run Try.prog W = .ok (.string ⟨T.toArray⟩) W)) (by kernel_rfl) (Hcv.out _ (stp_drew H1.out)) (fun hHeld => ?_)
  refine wpAnyH_take (i := 0) (oi := { dst := some 16, op := Go.Op.move (Go.Operand.tmp 0), type := 24, pos := "ref.go:146", after := #[], guard := none }) (v := ?v0) rfl (by kernel_rfl) (by kernel_rfl) (by kernel_rfl) (fun _ _ _ h => h) (Or.inl ⟨by rfl, ?hy0⟩) (by assumption) ?rest0
  case hy0 => (intro w hSw; (try dsimp only at hSw); go_simp; try with_reducible rfl)
  try simp only [Act.put, List.setIfInBounds_toArray, List.set_cons_zero, List.set_cons_succ]
  refine wpAnyH_take (i := 1) (oi := { dst := some 17, op := Go.Op.slice 24 (Go.Operand.tmp 16) (some (Go.Operand.const (Go.Value.int Go.IntKind.i64 148))) (some (Go.Operand.const (Go.Value.int Go.IntKind.i64 156))) none, type := 24, pos := "ref.go:146", after := #[{ on := 0, ground := Go.Ground.data }], guard := none }) (v := ?v1) rfl (by kernel_rfl) (by kernel_rfl) (by kernel_rfl) (fun _ _ _ h => h) (Or.inl ⟨by rfl, ?hy1⟩) (by assumption) ?rest1
  case hy1 => (intro w hSw; (try dsimp only at hSw); go_simp; try with_reducible rfl)
  try simp only [Act.put, List.setIfInBounds_toArray, List.set_cons_zero, List.set_cons_succ]
  refine wpAnyH_take (i := 2) (oi := { dst := some 18, op := Go.Op.convert 24 9 (Go.Operand.tmp 17), type := 9, pos := "ref.go:146", after := #[{ on := 1, ground := Go.Ground.data }], guard := none }) (v := ?v2) rfl (by kernel_rfl) (by kernel_rfl) (by kernel_rfl) (fun _ _ _ h => h) (Or.inl ⟨by rfl, ?hy2⟩) (by assumption) ?rest2
  case hy2 => (intro w hSw; (try dsimp only at hSw); go_simp; try with_reducible rfl)
  try simp only [Act.put, List.setIfInBounds_toArray, List.set_cons_zero, List.set_cons_succ]
  refine wpAnyH_take (i := 3) (oi := { dst := some 19, op := Go.Op.move (Go.Operand.tmp 0), type := 24, pos := "ref.go:146", after := #[], guard := none }) (v := ?v3) rfl (by kernel_rfl) (by kernel_rfl) (by kernel_rfl) (fun _ _ _ h => h) (Or.inl ⟨by rfl, ?hy3⟩) (by assumption) ?rest3
  case hy3 => (intro w hSw; (try dsimp only at hSw); go_simp; try with_reducible rfl)
  try simp only [Act.put, List.setIfInBounds_toArray, List.set_cons_zero, List.set_cons_succ]
  refine wpAnyH_ready (rs := [4]) (by kernel_rfl) (by simp) ?_
  refine AllReadyH.cons (o := { dst := some 20, op := Go.Op.call { callee := Go.Callee.value (Go.Operand.func 20), args := #[Go.Operand.tmp 19], argTypes := #[24] }, type := 3, pos := "ref.go:146", after := #[{ on := 3, ground := Go.Ground.data }], guard := none }) rfl (fun K hK => ?_) AllReadyH.nil
  go_simp
  refine (rsum_s l _ _ w1.drew (show RdA w1.drew _ _ _ from Ha1.out)).mono ?_
  rintro e wS ⟨rfl, hs⟩
  have HS1 := Lib.hid (Stp.trans (stp_drew H1.out) hs)
  have HbS := Lib.hid ((show Blk w1.drew gz 23 (hcells zeroH) from Hb1.out).keep hs Hb1.out.lt)
  have HaS := Lib.hid ((show RdA w1.drew (some ⟨b, o, none⟩) c (bs l) from Ha1.out).keep hs)
  clear hs
  go_wp2_with fail
  refine hK.out _ _ (Hcv.out _ (HS1.out)) (fun hHeld2 => ?_)
  clear hK K hHeld
  have hHeld := hHeld2
  clear hHeld2
  try simp only [Act.put, List.setIfInBounds_toArray, List.set_cons_zero, List.set_cons_succ]
  refine wpAnyH_ready (rs := [5]) (by kernel_rfl) (by simp) ?_
  refine AllReadyH.cons (o := { dst := some 21, op := Go.Op.call { callee := Go.Callee.value (Go.Operand.func 48), args := #[Go.Operand.tmp 20], argTypes := #[3] }, type := 24, pos := "ref.go:146", after := #[{ on := 4, ground := Go.Ground.data }, { on := 4, ground := Go.Ground.chain }], guard := none }) rfl (fun K hK => ?_) AllReadyH.nil
  go_simp
  refine (rsign_s l H512.out wS).mono ?_
  rintro e w2 ⟨v, rfl, hv, hs⟩
  obtain ⟨Av, cv, rfl, hrv, -⟩ := own_lay hv
  rw [HS.out] at hrv
  have hcv2 := Block.str_rd hrv
  rw [show (sumT l).length = S.length by rw [HS.out]]
  have H2 := Lib.hid (Stp.trans HS1.out hs)
  have Hb2 := Lib.hid (HbS.out.keep hs HbS.out.lt)
  have Ha2 := Lib.hid (HaS.out.keep hs)
  clear hs hv hrv
  go_wp2_with fail
  refine hK.out _ _ (Hcv.out _ (H2.out)) (fun hHeld2 => ?_)
  clear hK K hHeld
  have hHeld := hHeld2
  clear hHeld2
  try simp only [Act.put, List.setIfInBounds_toArray, List.set_cons_zero, List.set_cons_succ]
  refine wpAnyH_ready (rs := [6]) (by kernel_rfl) (by simp) ?_
  refine AllReadyH.cons (o := { dst := some 22, op := Go.Op.convert 24 9 (Go.Operand.tmp 21), type := 9, pos := "ref.go:146", after := #[{ on := 5, ground := Go.Ground.data }], guard := none }) rfl (fun K hK => ?_) AllReadyH.nil
  go_simp
  refine hK.out _ _ (Hcv.out _ (H2.out)) (fun hHeld2 => ?_)
  clear hK K hHeld
  have hHeld := hHeld2
  clear hHeld2
  try simp only [Act.put, List.setIfInBounds_toArray, List.set_cons_zero, List.set_cons_succ]
  clear hcv2
  refine wpAnyH_take (i := 7) (oi := { dst := some 23, op := Go.Op.binOp Go.BinOp.neq 9 (Go.Operand.tmp 18) (Go.Operand.tmp 22) 9, type := 4, pos := "ref.go:146", after := #[{ on := 2, ground := Go.Ground.data }, { on := 6, ground := Go.Ground.data }], guard := none }) (v := ?v7) rfl (by kernel_rfl) (by kernel_rfl) (by kernel_rfl) (fun _ _ _ h => h) (Or.inl ⟨by rfl, ?hy7⟩) (by assumption) ?rest7
  case hy7 => (intro w hSw; (try dsimp only at hSw); go_simp; try with_reducible rfl)
  try simp only [Act.put, List.setIfInBounds_toArray, List.set_cons_zero, List.set_cons_succ]
  refine wpAnyH_done (by kernel_rfl) ?_ _
  obtain ⟨⟨z0, z1, z2, z3, z4, z5, z6, z7, z8, z9, z10⟩, ⟨y0, y1, y2, y3, y4, y5, y6, y7, y8, y9, y10⟩⟩ := zy Hb2.out
  go_wp2_with fail
  have hf := fill_blk zeroH Hb2.out
  have hst := fill_stp (g := gz) zeroH H2.out (by omega)
  change bodyPost _ _ _ _ _ (fillW w2 gz zeroH)
  generalize fillW w2 gz zeroH = W at hf hst ⊢
  clear z0 z1 z2 z3 z4 z5 z6 z7 z8 z9 z10 y0 y1 y2 y3 y4 y5 y6 y7 y8 y9 y10
  obtain ⟨p0, p1, p2, p3, p4, p5, p6, p7, p8, p9, p10⟩ := hd_cells hf
  refine bodyPost_ret (v := .tuple #[hv zeroH, .int .i64 3]) (by simp [results, Try.results16, go_sem, *]) rfl ⟨rfl, hst⟩

set_option maxHeartbeats 1000000 in
set_option maxRecDepth 100000 in
theorem rGet_form (l : L) (A : Option Addr) (c : Nat) (w : World) (ha : RdA w A c (bs l)) (h512 : l.length = 512) (hz : zeroV l = false) (hne : sub l 148 8 = sumT l) (hno : ¬ (mayH (guessH l) = true ∧ blk (guessH l) = l)) :
    Calls Try.prog 16 #[.slice A l.length c] w fun e w' => e = .returned (.tuple #[hv zeroH, .int .i64 2]) ∧ Stp w w' := by
  have h0 := Stp.refl w
  have g0 : ((l.length : Int) != 512) = false := by simp; omega
  have Hl := Lib.hid (show l.length < 9223372036854775808 by omega)
  have Hz := Lib.hid hz
  have Hb0 := Lib.hid (Blk.new w 23 (hcells zeroH))
  have Ha := Lib.hid (ha.keep (Stp.alloc h0 (.cells (hcells zeroH) 23)))
  obtain ⟨gz, hgz⟩ : ∃ x, w.heap.size = x := ⟨_, rfl⟩
  rw [hgz] at Hb0
  have H512 := Lib.hid h512
  obtain ⟨b, o, rfl, hcell⟩ := ha.at_ (j := 0) (by rw [bs_length]; omega)
  have hcl := ha.length_le
  rw [bs_length] at hcl
  have hsl := slice148 b o l.length c (by omega)
  have hsl2 := sliceAt148 b o l.length c (by omega)
  obtain ⟨T, hT⟩ : ∃ T, sub l 148 8 = T := ⟨_, rfl⟩
  obtain ⟨S, hS⟩ : ∃ S, sumT l = S := ⟨_, rfl⟩
  have HS := Lib.hid hS
  have hcv : ∀ W, Stp w W → (convert 24 9 (.slice (some ⟨b, o + 148, none⟩) 8 (c - 148))).run Try.prog W = .ok (.string ⟨T.toArray⟩) W := fun W hW => by
    rw [← hT]
    exact Num.str_of W _ _ _ (rd_sub (ha.keep hW) (i := 148) (n := 8) (by omega))
  have Hcv := Lib.hid hcv
  rw [hT, hS] at hne
  have hq : (T == S) = true := by rw [hne]; simp
  obtain ⟨G, hG⟩ : ∃ G, guessH l = G := ⟨_, rfl⟩
  have HG := Lib.hid hG
  have hsm := small_guess h512
  rw [hG] at hsm
  have Hsm := Lib.hid hsm
  have heq := putB_eq (h := G) h512
  rw [hG] at hno
  rw [decide_eq_false hno] at heq
  have Heq := Lib.hid heq
  clear h512 hz ha hcell hcl hcv hT hS hne hG hsm heq hno
  go_enter Try.func16, Try.ntmps16
  go_wp2_with (first
    | (go_at_call 52; refine (rzero_s l _ _ _ Ha.out Hl.out).mono ?_; rintro e w1 ⟨rfl, hs⟩; rw [Hz.out]; have Hb1 := Lib.hid (Hb0.out.keep hs Hb0.out.lt); have H1 := Lib.hid (Stp.trans (Stp.alloc h0 _) hs); have Ha1 := Lib.hid (Ha.out.keep hs); clear hs))
  refine wp_region_held_drew (S := (fun W : World => (convert 24 9 (.slice (some ⟨b, o + 148, none⟩) 8 (c - 148))).run Try.prog W = .ok (.string ⟨T.toArray⟩) W)) (by kernel_rfl) (Hcv.out _ (stp_drew H1.out)) (fun hHeld => ?_)
  refine wpAnyH_take (i := 0) (oi := { dst := some 16, op := Go.Op.move (Go.Operand.tmp 0), type := 24, pos := "ref.go:146", after := #[], guard := none }) (v := ?v0) rfl (by kernel_rfl) (by kernel_rfl) (by kernel_rfl) (fun _ _ _ h => h) (Or.inl ⟨by rfl, ?hy0⟩) (by assumption) ?rest0
  case hy0 => (intro w hSw; (try dsimp only at hSw); go_simp; try with_reducible rfl)
  try simp only [Act.put, List.setIfInBounds_toArray, List.set_cons_zero, List.set_cons_succ]
  refine wpAnyH_take (i := 1) (oi := { dst := some 17, op := Go.Op.slice 24 (Go.Operand.tmp 16) (some (Go.Operand.const (Go.Value.int Go.IntKind.i64 148))) (some (Go.Operand.const (Go.Value.int Go.IntKind.i64 156))) none, type := 24, pos := "ref.go:146", after := #[{ on := 0, ground := Go.Ground.data }], guard := none }) (v := ?v1) rfl (by kernel_rfl) (by kernel_rfl) (by kernel_rfl) (fun _ _ _ h => h) (Or.inl ⟨by rfl, ?hy1⟩) (by assumption) ?rest1
  case hy1 => (intro w hSw; (try dsimp only at hSw); go_simp; try with_reducible rfl)
  try simp only [Act.put, List.setIfInBounds_toArray, List.set_cons_zero, List.set_cons_succ]
  refine wpAnyH_take (i := 2) (oi := { dst := some 18, op := Go.Op.convert 24 9 (Go.Operand.tmp 17), type := 9, pos := "ref.go:146", after := #[{ on := 1, ground := Go.Ground.data }], guard := none }) (v := ?v2) rfl (by kernel_rfl) (by kernel_rfl) (by kernel_rfl) (fun _ _ _ h => h) (Or.inl ⟨by rfl, ?hy2⟩) (by assumption) ?rest2
  case hy2 => (intro w hSw; (try dsimp only at hSw); go_simp; try with_reducible rfl)
  try simp only [Act.put, List.setIfInBounds_toArray, List.set_cons_zero, List.set_cons_succ]
  refine wpAnyH_take (i := 3) (oi := { dst := some 19, op := Go.Op.move (Go.Operand.tmp 0), type := 24, pos := "ref.go:146", after := #[], guard := none }) (v := ?v3) rfl (by kernel_rfl) (by kernel_rfl) (by kernel_rfl) (fun _ _ _ h => h) (Or.inl ⟨by rfl, ?hy3⟩) (by assumption) ?rest3
  case hy3 => (intro w hSw; (try dsimp only at hSw); go_simp; try with_reducible rfl)
  try simp only [Act.put, List.setIfInBounds_toArray, List.set_cons_zero, List.set_cons_succ]
  refine wpAnyH_ready (rs := [4]) (by kernel_rfl) (by simp) ?_
  refine AllReadyH.cons (o := { dst := some 20, op := Go.Op.call { callee := Go.Callee.value (Go.Operand.func 20), args := #[Go.Operand.tmp 19], argTypes := #[24] }, type := 3, pos := "ref.go:146", after := #[{ on := 3, ground := Go.Ground.data }], guard := none }) rfl (fun K hK => ?_) AllReadyH.nil
  go_simp
  refine (rsum_s l _ _ w1.drew (show RdA w1.drew _ _ _ from Ha1.out)).mono ?_
  rintro e wS ⟨rfl, hs⟩
  have HS1 := Lib.hid (Stp.trans (stp_drew H1.out) hs)
  have HbS := Lib.hid ((show Blk w1.drew gz 23 (hcells zeroH) from Hb1.out).keep hs Hb1.out.lt)
  have HaS := Lib.hid ((show RdA w1.drew (some ⟨b, o, none⟩) c (bs l) from Ha1.out).keep hs)
  clear hs
  go_wp2_with fail
  refine hK.out _ _ (Hcv.out _ (HS1.out)) (fun hHeld2 => ?_)
  clear hK K hHeld
  have hHeld := hHeld2
  clear hHeld2
  try simp only [Act.put, List.setIfInBounds_toArray, List.set_cons_zero, List.set_cons_succ]
  refine wpAnyH_ready (rs := [5]) (by kernel_rfl) (by simp) ?_
  refine AllReadyH.cons (o := { dst := some 21, op := Go.Op.call { callee := Go.Callee.value (Go.Operand.func 48), args := #[Go.Operand.tmp 20], argTypes := #[3] }, type := 24, pos := "ref.go:146", after := #[{ on := 4, ground := Go.Ground.data }, { on := 4, ground := Go.Ground.chain }], guard := none }) rfl (fun K hK => ?_) AllReadyH.nil
  go_simp
  refine (rsign_s l H512.out wS).mono ?_
  rintro e w2 ⟨v, rfl, hv, hs⟩
  obtain ⟨Av, cv, rfl, hrv, -⟩ := own_lay hv
  rw [HS.out] at hrv
  have hcv2 := Block.str_rd hrv
  rw [show (sumT l).length = S.length by rw [HS.out]]
  have H2 := Lib.hid (Stp.trans HS1.out hs)
  have Hb2 := Lib.hid (HbS.out.keep hs HbS.out.lt)
  have Ha2 := Lib.hid (HaS.out.keep hs)
  clear hs hv hrv
  go_wp2_with fail
  refine hK.out _ _ (Hcv.out _ (H2.out)) (fun hHeld2 => ?_)
  clear hK K hHeld
  have hHeld := hHeld2
  clear hHeld2
  try simp only [Act.put, List.setIfInBounds_toArray, List.set_cons_zero, List.set_cons_succ]
  refine wpAnyH_ready (rs := [6]) (by kernel_rfl) (by simp) ?_
  refine AllReadyH.cons (o := { dst := some 22, op := Go.Op.convert 24 9 (Go.Operand.tmp 21), type := 9, pos := "ref.go:146", after := #[{ on := 5, ground := Go.Ground.data }], guard := none }) rfl (fun K hK => ?_) AllReadyH.nil
  go_simp
  refine hK.out _ _ (Hcv.out _ (H2.out)) (fun hHeld2 => ?_)
  clear hK K hHeld
  have hHeld := hHeld2
  clear hHeld2
  try simp only [Act.put, List.setIfInBounds_toArray, List.set_cons_zero, List.set_cons_succ]
  clear hcv2
  refine wpAnyH_take (i := 7) (oi := { dst := some 23, op := Go.Op.binOp Go.BinOp.neq 9 (Go.Operand.tmp 18) (Go.Operand.tmp 22) 9, type := 4, pos := "ref.go:146", after := #[{ on := 2, ground := Go.Ground.data }, { on := 6, ground := Go.Ground.data }], guard := none }) (v := ?v7) rfl (by kernel_rfl) (by kernel_rfl) (by kernel_rfl) (fun _ _ _ h => h) (Or.inl ⟨by rfl, ?hy7⟩) (by assumption) ?rest7
  case hy7 => (intro w hSw; (try dsimp only at hSw); go_simp; try with_reducible rfl)
  try simp only [Act.put, List.setIfInBounds_toArray, List.set_cons_zero, List.set_cons_succ]
  refine wpAnyH_done (by kernel_rfl) ?_ _
  go_wp2_with (first
    | (go_at_call 53; refine (rguess_s l _ _ _ Ha2.out H512.out).mono ?_; rintro e w3 ⟨rfl, hs⟩; rw [HG.out]; have H3 := Lib.hid (Stp.trans H2.out hs); have Hb3 := Lib.hid (Hb2.out.keep hs Hb2.out.lt); have Ha3 := Lib.hid (Ha2.out.keep hs); clear hs Hb2 Ha2)
    | (go_at_call 14; refine (rputH_s G Hsm.out _).mono ?_; rintro e w4 ⟨A4, c4, rfl, hr, hs⟩; have Hr4 := Lib.hid hr; have H4 := Lib.hid (Stp.trans (Stp.alloc H3.out _) hs); have Hb4 := Lib.hid ((Hb3.out.alloc _).keep hs (Hb3.out.alloc _).lt); have Hg4 := Lib.hid ((Blk.new w3 23 (hcells G)).keep hs (Blk.new w3 23 (hcells G)).lt); have Ha4 := Lib.hid ((Ha3.out.keep (Stp.alloc (Stp.refl w3) _)).keep hs); have hlt3 := Hb3.out.lt; clear hr hs Hb3 Ha3; have hcp := Block.str_rd Hr4.out; have hcb := Block.str_rd Ha4.out; have heq := Heq.out; obtain ⟨⟨z0, z1, z2, z3, z4, z5, z6, z7, z8, z9, z10⟩, ⟨y0, y1, y2, y3, y4, y5, y6, y7, y8, y9, y10⟩⟩ := zy Hb4.out; generalize mayH G = mg; rcases mg))
  all_goals
    have hf := fill_blk zeroH Hb4.out
    have hst := fill_stp (g := gz) zeroH H4.out (by omega)
    change bodyPost _ _ _ _ _ (fillW w4 gz zeroH)
    generalize fillW w4 gz zeroH = W at hf hst ⊢
    clear z0 z1 z2 z3 z4 z5 z6 z7 z8 z9 z10 y0 y1 y2 y3 y4 y5 y6 y7 y8 y9 y10
    obtain ⟨p0, p1, p2, p3, p4, p5, p6, p7, p8, p9, p10⟩ := hd_cells hf
    refine bodyPost_ret (v := .tuple #[hv zeroH, .int .i64 2]) (by simp [results, Try.results16, go_sem, *]) rfl ⟨rfl, hst⟩

set_option maxHeartbeats 1000000 in
set_option maxRecDepth 100000 in
theorem rGet_ok (l : L) (A : Option Addr) (c : Nat) (w : World) (ha : RdA w A c (bs l)) (h512 : l.length = 512) (hz : zeroV l = false) (hne : sub l 148 8 = sumT l) (hno : mayH (guessH l) = true ∧ blk (guessH l) = l) :
    Calls Try.prog 16 #[.slice A l.length c] w fun e w' => e = .returned (.tuple #[hv (guessH l), .int .i64 0]) ∧ Stp w w' := by
  have h0 := Stp.refl w
  have g0 : ((l.length : Int) != 512) = false := by simp; omega
  have Hl := Lib.hid (show l.length < 9223372036854775808 by omega)
  have Hz := Lib.hid hz
  have Hb0 := Lib.hid (Blk.new w 23 (hcells zeroH))
  have Ha := Lib.hid (ha.keep (Stp.alloc h0 (.cells (hcells zeroH) 23)))
  obtain ⟨gz, hgz⟩ : ∃ x, w.heap.size = x := ⟨_, rfl⟩
  rw [hgz] at Hb0
  have H512 := Lib.hid h512
  obtain ⟨b, o, rfl, hcell⟩ := ha.at_ (j := 0) (by rw [bs_length]; omega)
  have hcl := ha.length_le
  rw [bs_length] at hcl
  have hsl := slice148 b o l.length c (by omega)
  have hsl2 := sliceAt148 b o l.length c (by omega)
  obtain ⟨T, hT⟩ : ∃ T, sub l 148 8 = T := ⟨_, rfl⟩
  obtain ⟨S, hS⟩ : ∃ S, sumT l = S := ⟨_, rfl⟩
  have HS := Lib.hid hS
  have hcv : ∀ W, Stp w W → (convert 24 9 (.slice (some ⟨b, o + 148, none⟩) 8 (c - 148))).run Try.prog W = .ok (.string ⟨T.toArray⟩) W := fun W hW => by
    rw [← hT]
    exact Num.str_of W _ _ _ (rd_sub (ha.keep hW) (i := 148) (n := 8) (by omega))
  have Hcv := Lib.hid hcv
  rw [hT, hS] at hne
  have hq : (T == S) = true := by rw [hne]; simp
  obtain ⟨G, hG⟩ : ∃ G, guessH l = G := ⟨_, rfl⟩
  have HG := Lib.hid hG
  have hsm := small_guess h512
  rw [hG] at hsm ⊢
  have Hsm := Lib.hid hsm
  have heq := putB_eq (h := G) h512
  rw [hG] at hno
  rw [decide_eq_true hno] at heq
  have Hmg := Lib.hid hno.1
  have Heq := Lib.hid heq
  clear h512 hz ha hcell hcl hcv hT hS hne hG hsm heq hno
  go_enter Try.func16, Try.ntmps16
  go_wp2_with (first
    | (go_at_call 52; refine (rzero_s l _ _ _ Ha.out Hl.out).mono ?_; rintro e w1 ⟨rfl, hs⟩; rw [Hz.out]; have Hb1 := Lib.hid (Hb0.out.keep hs Hb0.out.lt); have H1 := Lib.hid (Stp.trans (Stp.alloc h0 _) hs); have Ha1 := Lib.hid (Ha.out.keep hs); clear hs))
  refine wp_region_held_drew (S := (fun W : World => (convert 24 9 (.slice (some ⟨b, o + 148, none⟩) 8 (c - 148))).run Try.prog W = .ok (.string ⟨T.toArray⟩) W)) (by kernel_rfl) (Hcv.out _ (stp_drew H1.out)) (fun hHeld => ?_)
  refine wpAnyH_take (i := 0) (oi := { dst := some 16, op := Go.Op.move (Go.Operand.tmp 0), type := 24, pos := "ref.go:146", after := #[], guard := none }) (v := ?v0) rfl (by kernel_rfl) (by kernel_rfl) (by kernel_rfl) (fun _ _ _ h => h) (Or.inl ⟨by rfl, ?hy0⟩) (by assumption) ?rest0
  case hy0 => (intro w hSw; (try dsimp only at hSw); go_simp; try with_reducible rfl)
  try simp only [Act.put, List.setIfInBounds_toArray, List.set_cons_zero, List.set_cons_succ]
  refine wpAnyH_take (i := 1) (oi := { dst := some 17, op := Go.Op.slice 24 (Go.Operand.tmp 16) (some (Go.Operand.const (Go.Value.int Go.IntKind.i64 148))) (some (Go.Operand.const (Go.Value.int Go.IntKind.i64 156))) none, type := 24, pos := "ref.go:146", after := #[{ on := 0, ground := Go.Ground.data }], guard := none }) (v := ?v1) rfl (by kernel_rfl) (by kernel_rfl) (by kernel_rfl) (fun _ _ _ h => h) (Or.inl ⟨by rfl, ?hy1⟩) (by assumption) ?rest1
  case hy1 => (intro w hSw; (try dsimp only at hSw); go_simp; try with_reducible rfl)
  try simp only [Act.put, List.setIfInBounds_toArray, List.set_cons_zero, List.set_cons_succ]
  refine wpAnyH_take (i := 2) (oi := { dst := some 18, op := Go.Op.convert 24 9 (Go.Operand.tmp 17), type := 9, pos := "ref.go:146", after := #[{ on := 1, ground := Go.Ground.data }], guard := none }) (v := ?v2) rfl (by kernel_rfl) (by kernel_rfl) (by kernel_rfl) (fun _ _ _ h => h) (Or.inl ⟨by rfl, ?hy2⟩) (by assumption) ?rest2
  case hy2 => (intro w hSw; (try dsimp only at hSw); go_simp; try with_reducible rfl)
  try simp only [Act.put, List.setIfInBounds_toArray, List.set_cons_zero, List.set_cons_succ]
  refine wpAnyH_take (i := 3) (oi := { dst := some 19, op := Go.Op.move (Go.Operand.tmp 0), type := 24, pos := "ref.go:146", after := #[], guard := none }) (v := ?v3) rfl (by kernel_rfl) (by kernel_rfl) (by kernel_rfl) (fun _ _ _ h => h) (Or.inl ⟨by rfl, ?hy3⟩) (by assumption) ?rest3
  case hy3 => (intro w hSw; (try dsimp only at hSw); go_simp; try with_reducible rfl)
  try simp only [Act.put, List.setIfInBounds_toArray, List.set_cons_zero, List.set_cons_succ]
  refine wpAnyH_ready (rs := [4]) (by kernel_rfl) (by simp) ?_
  refine AllReadyH.cons (o := { dst := some 20, op := Go.Op.call { callee := Go.Callee.value (Go.Operand.func 20), args := #[Go.Operand.tmp 19], argTypes := #[24] }, type := 3, pos := "ref.go:146", after := #[{ on := 3, ground := Go.Ground.data }], guard := none }) rfl (fun K hK => ?_) AllReadyH.nil
  go_simp
  refine (rsum_s l _ _ w1.drew (show RdA w1.drew _ _ _ from Ha1.out)).mono ?_
  rintro e wS ⟨rfl, hs⟩
  have HS1 := Lib.hid (Stp.trans (stp_drew H1.out) hs)
  have HbS := Lib.hid ((show Blk w1.drew gz 23 (hcells zeroH) from Hb1.out).keep hs Hb1.out.lt)
  have HaS := Lib.hid ((show RdA w1.drew (some ⟨b, o, none⟩) c (bs l) from Ha1.out).keep hs)
  clear hs
  go_wp2_with fail
  refine hK.out _ _ (Hcv.out _ (HS1.out)) (fun hHeld2 => ?_)
  clear hK K hHeld
  have hHeld := hHeld2
  clear hHeld2
  try simp only [Act.put, List.setIfInBounds_toArray, List.set_cons_zero, List.set_cons_succ]
  refine wpAnyH_ready (rs := [5]) (by kernel_rfl) (by simp) ?_
  refine AllReadyH.cons (o := { dst := some 21, op := Go.Op.call { callee := Go.Callee.value (Go.Operand.func 48), args := #[Go.Operand.tmp 20], argTypes := #[3] }, type := 24, pos := "ref.go:146", after := #[{ on := 4, ground := Go.Ground.data }, { on := 4, ground := Go.Ground.chain }], guard := none }) rfl (fun K hK => ?_) AllReadyH.nil
  go_simp
  refine (rsign_s l H512.out wS).mono ?_
  rintro e w2 ⟨v, rfl, hv, hs⟩
  obtain ⟨Av, cv, rfl, hrv, -⟩ := own_lay hv
  rw [HS.out] at hrv
  have hcv2 := Block.str_rd hrv
  rw [show (sumT l).length = S.length by rw [HS.out]]
  have H2 := Lib.hid (Stp.trans HS1.out hs)
  have Hb2 := Lib.hid (HbS.out.keep hs HbS.out.lt)
  have Ha2 := Lib.hid (HaS.out.keep hs)
  clear hs hv hrv
  go_wp2_with fail
  refine hK.out _ _ (Hcv.out _ (H2.out)) (fun hHeld2 => ?_)
  clear hK K hHeld
  have hHeld := hHeld2
  clear hHeld2
  try simp only [Act.put, List.setIfInBounds_toArray, List.set_cons_zero, List.set_cons_succ]
  refine wpAnyH_ready (rs := [6]) (by kernel_rfl) (by simp) ?_
  refine AllReadyH.cons (o := { dst := some 22, op := Go.Op.convert 24 9 (Go.Operand.tmp 21), type := 9, pos := "ref.go:146", after := #[{ on := 5, ground := Go.Ground.data }], guard := none }) rfl (fun K hK => ?_) AllReadyH.nil
  go_simp
  refine hK.out _ _ (Hcv.out _ (H2.out)) (fun hHeld2 => ?_)
  clear hK K hHeld
  have hHeld := hHeld2
  clear hHeld2
  try simp only [Act.put, List.setIfInBounds_toArray, List.set_cons_zero, List.set_cons_succ]
  clear hcv2
  refine wpAnyH_take (i := 7) (oi := { dst := some 23, op := Go.Op.binOp Go.BinOp.neq 9 (Go.Operand.tmp 18) (Go.Operand.tmp 22) 9, type := 4, pos := "ref.go:146", after := #[{ on := 2, ground := Go.Ground.data }, { on := 6, ground := Go.Ground.data }], guard := none }) (v := ?v7) rfl (by kernel_rfl) (by kernel_rfl) (by kernel_rfl) (fun _ _ _ h => h) (Or.inl ⟨by rfl, ?hy7⟩) (by assumption) ?rest7
  case hy7 => (intro w hSw; (try dsimp only at hSw); go_simp; try with_reducible rfl)
  try simp only [Act.put, List.setIfInBounds_toArray, List.set_cons_zero, List.set_cons_succ]
  refine wpAnyH_done (by kernel_rfl) ?_ _
  go_wp2_with (first
    | (go_at_call 53; refine (rguess_s l _ _ _ Ha2.out H512.out).mono ?_; rintro e w3 ⟨rfl, hs⟩; rw [HG.out]; have H3 := Lib.hid (Stp.trans H2.out hs); have Hb3 := Lib.hid (Hb2.out.keep hs Hb2.out.lt); have Ha3 := Lib.hid (Ha2.out.keep hs); clear hs Hb2 Ha2)
    | (go_at_call 14; refine (rputH_s G Hsm.out _).mono ?_; rintro e w4 ⟨A4, c4, rfl, hr, hs⟩; have Hr4 := Lib.hid hr; have H4 := Lib.hid (Stp.trans (Stp.alloc H3.out _) hs); have Hb4 := Lib.hid ((Hb3.out.alloc _).keep hs (Hb3.out.alloc _).lt); have Hg4 := Lib.hid ((Blk.new w3 23 (hcells G)).keep hs (Blk.new w3 23 (hcells G)).lt); have Ha4 := Lib.hid ((Ha3.out.keep (Stp.alloc (Stp.refl w3) _)).keep hs); have hlt3 := Hb3.out.lt; clear hr hs Hb3 Ha3; have hcp := Block.str_rd Hr4.out; have hcb := Block.str_rd Ha4.out; have heq := Heq.out; obtain ⟨⟨z0, z1, z2, z3, z4, z5, z6, z7, z8, z9, z10⟩, ⟨y0, y1, y2, y3, y4, y5, y6, y7, y8, y9, y10⟩⟩ := zy Hb4.out; obtain ⟨x0, x1, x2, x3, x4, x5, x6, x7, x8, x9, x10⟩ := hd_cells Hg4.out; rw [Hmg.out]))
  have hf := fill_blk G Hb4.out
  have hst := fill_stp (g := gz) G H4.out (by omega)
  change bodyPost _ _ _ _ _ (fillW w4 gz G)
  generalize fillW w4 gz G = W at hf hst ⊢
  clear x0 x1 x2 x3 x4 x5 x6 x7 x8 x9 x10 z0 z1 z2 z3 z4 z5 z6 z7 z8 z9 z10 y0 y1 y2 y3 y4 y5 y6 y7 y8 y9 y10
  obtain ⟨p0, p1, p2, p3, p4, p5, p6, p7, p8, p9, p10⟩ := hd_cells hf
  refine bodyPost_ret (v := .tuple #[hv G, .int .i64 0]) (by simp [results, Try.results16, go_sem, *]) rfl ⟨rfl, hst⟩

theorem rGet_s (l : L) (A : Option Addr) (c : Nat) (w : World) (ha : RdA w A c (bs l)) :
    Calls Try.prog 16 #[.slice A l.length c] w fun e w' => e = .returned (.tuple #[hv (getH l), .int .i64 (codeB l)]) ∧ Stp w w' := by
  unfold getH codeB
  by_cases h512 : l.length = 512
  · rw [if_pos h512]
    by_cases hz : l = zeros 512
    · rw [if_pos hz, if_neg (by decide)]
      exact rGet_zero l A c w ha h512 (zeroV_iff.2 (by rw [h512]; exact hz))
    · rw [if_neg hz]
      have hz2 : zeroV l = false := by
        rw [Bool.eq_false_iff]
        intro h
        have := zeroV_iff.1 h
        rw [h512] at this
        exact hz this
      by_cases hs : sub l 148 8 = sumT l
      · rw [if_pos hs]
        by_cases hm : mayH (guessH l) = true ∧ blk (guessH l) = l
        · rw [if_pos hm, if_pos rfl]
          exact rGet_ok l A c w ha h512 hz2 hs hm
        · rw [if_neg hm, if_neg (by decide)]
          exact rGet_form l A c w ha h512 hz2 hs hm
      · rw [if_neg hs, if_neg (by decide)]
        exact rGet_sum l A c w ha h512 hz2 hs
  · rw [if_neg h512, if_neg (by decide)]
    exact rGet_arg l A c w h512
end Go.Proofs.Ytleoiejkipobbaa.Head
