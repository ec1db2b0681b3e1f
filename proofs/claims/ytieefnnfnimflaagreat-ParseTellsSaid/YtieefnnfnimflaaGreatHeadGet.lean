/-
  The contract of package head's Get: no statement is proved here.
-/
import Derived.Test.YtieefnnfnimflaaGreatHeadGuess
namespace Go.Proofs.YtieefnnfnimflaaGreat.Head
open Go.RowKit Go.Proofs.YtieefnnfnimflaaGreat.Base Go.Proofs.YtieefnnfnimflaaGreat.NumM Go.Proofs.YtieefnnfnimflaaGreat.Num

/-- The cells of a header that is zero, and that they can be stored into. -/
theorem zy {w : World} {g : Nat} {t : TypeId} (hb : Blk w g t (hcells zeroH)) :
    ((w.cell? ⟨g, 0, none⟩ = some (.string ⟨#[]⟩) ∧ w.cell? ⟨g, 1, none⟩ = some (.string ⟨#[]⟩) ∧ w.cell? ⟨g, 2, none⟩ = some (.string ⟨#[]⟩) ∧ w.cell? ⟨g, 3, none⟩ = some (.int .i64 0) ∧ w.cell? ⟨g, 4, none⟩ = some (.int .i64 0) ∧ w.cell? ⟨g, 5, none⟩ = some (.int .i64 0) ∧
    w.cell? ⟨g, 6, none⟩ = some (.int .i64 0) ∧ w.cell? ⟨g, 7, none⟩ = some (.int .i64 0) ∧ w.cell? ⟨g, 8, none⟩ = some (.int .u8 0) ∧ w.cell? ⟨g, 9, none⟩ = some (.int .i64 0) ∧ w.cell? ⟨g, 10, none⟩ = some (.int .i64 0)) ∧
    (w.frozen? ⟨g, 0, none⟩ = false ∧ w.frozen? ⟨g, 1, none⟩ = false ∧ w.frozen? ⟨g, 2, none⟩ = false ∧ w.frozen? ⟨g, 3, none⟩ = false ∧ w.frozen? ⟨g, 4, none⟩ = false ∧ w.frozen? ⟨g, 5, none⟩ = false ∧ w.frozen? ⟨g, 6, none⟩ = false ∧ w.frozen? ⟨g, 7, none⟩ = false ∧ w.frozen? ⟨g, 8, none⟩ = false ∧ w.frozen? ⟨g, 9, none⟩ = false ∧ w.frozen? ⟨g, 10, none⟩ = false)) := by
  refine ⟨⟨?_, ?_, ?_, ?_, ?_, ?_, ?_, ?_, ?_, ?_, ?_⟩, ⟨hb.free 0, hb.free 1, hb.free 2, hb.free 3, hb.free 4, hb.free 5, hb.free 6, hb.free 7, hb.free 8, hb.free 9, hb.free 10⟩⟩ <;> (rw [hb.cell]; rfl)

theorem small_guess {l : L} (h : l.length = 512) : SmallH (guessH l) := by
  have hu : ∀ x : L, (upto x).length ≤ x.length := fun x => by
    have := congrArg List.length (upto_take x)
    rw [List.length_take] at this
    omega
  have h1 := hu (sub l 0 100)
  have h2 := hu (sub l 157 100)
  have h3 := hu (sub l 345 155)
  rw [sub_length (by omega)] at h1 h2 h3
  constructor <;> unfold guessH <;> simp only
  · omega
  · split
    · simp
    · omega
  · omega
  · exact (getV_range _).2
  · exact (getV_range _).2
  · exact (getV_range _).2
  · exact (getV_range _).2
  · exact (getV_range _).2
  · split
    · exact (getV_range _).2
    · omega
  · split
    · exact (getV_range _).2
    · omega
theorem blk_length {h : Hd} (hm : mayH h = true) (hs : SmallH h) : (blk h).length = 512 := by
  have h1 : (layAll (zeros 512) (txts h)).length = 512 := by rw [layAll_length (by rw [zeros_length]; exact ps_room hm), zeros_length]
  have h2 : (layAll (layAll (zeros 512) (txts h)) (numsL h)).length = 512 := by rw [layAll_length (by rw [h1]; exact nu_room hm hs), h1]
  have h3 : (rawH h).length = 512 := by
    unfold rawH
    rw [layAll_append, layAll_append]
    show (lay (lay _ 156 [h.ty]) 257 magic).length = 512
    rw [lay_length (by rw [lay_length (by rw [h2]; simp), h2]; decide), lay_length (by rw [h2]; simp), h2]
  unfold blk
  rw [lay_length (by rw [sumT_length, h3]; omega), h3]
theorem putB_eq {l : L} {h : Hd} (hl : l.length = 512) : (putB h == l) = decide (mayH h = true ∧ blk h = l) := by
  unfold putB
  by_cases hm : mayH h = true
  · rw [if_pos hm, Bool.eq_iff_iff, beq_iff_eq, decide_eq_true_eq]
    exact ⟨fun e => ⟨hm, e⟩, fun e => e.2⟩
  · rw [if_neg hm, Bool.eq_iff_iff, beq_iff_eq, decide_eq_true_eq]
    exact ⟨fun e => by rw [← e] at hl; simp at hl, fun e => absurd e.1 hm⟩
theorem slice148 (b o n c : Nat) (hc : 156 ≤ c) (w : World) : (Instr.slice 26 (.slice (some ⟨b, o, none⟩) n c) (some (.int .i64 148)) (some (.int .i64 156)) none).run Tryz.prog w = .ok (.slice (some ⟨b, o + 148, none⟩) 8 (c - 148)) w :=
  slice_lh b o n c 148 8 hc (by omega) w
theorem sliceAt148 (b o n c : Nat) (hc : 156 ≤ c) (w : World) : (Instr.sliceAt 26 (.slice (some ⟨b, o, none⟩) n c) (some (.int .i64 148)) (some (.int .i64 156)) none).run Tryz.prog w = .ok (.slice (some ⟨b, o + 148, none⟩) 8 (c - 148)) w :=
  sliceAt_lh b o n c 148 8 hc (by omega) w

set_option maxHeartbeats 4000000 in
set_option maxRecDepth 100000 in
theorem hget_arg (l : L) (A : Option Addr) (c : Nat) (w : World) (h512 : l.length ≠ 512) :
    Calls Tryz.prog 89 #[.slice A l.length c] w fun e w' => e = .returned (.tuple #[hv zeroH, .int .i64 1]) ∧ Stp w w' := by
  have h0 := Stp.refl w
  have g0 : ((l.length : Int) != 512) = true := by simp; omega
  clear h512
  go_enter Tryz.func89, Tryz.ntmps89
  go_wp2_with fail
  have hf := Blk.new w 81 (hcells zeroH)
  have hst := Stp.alloc h0 (.cells (hcells zeroH) 81)
  obtain ⟨gz, hgz⟩ : ∃ x, w.heap.size = x := ⟨_, rfl⟩
  rw [hgz] at hf
  change bodyPost _ _ _ _ _ (w.alloc (.cells (hcells zeroH) 81))
  generalize w.alloc (.cells (hcells zeroH) 81) = W at hf hst ⊢
  obtain ⟨p0, p1, p2, p3, p4, p5, p6, p7, p8, p9, p10⟩ := hd_cells hf
  refine bodyPost_ret (v := .tuple #[hv zeroH, .int .i64 1]) (by simp [results, Tryz.results89, go_sem, *]) rfl ⟨rfl, hst⟩

set_option maxHeartbeats 4000000 in
set_option maxRecDepth 100000 in
theorem hget_zero (l : L) (A : Option Addr) (c : Nat) (w : World) (ha : RdA w A c (bs l)) (h512 : l.length = 512) (hz : zeroV l = true) :
    Calls Tryz.prog 89 #[.slice A l.length c] w fun e w' => e = .returned (.tuple #[hv zeroH, .int .i64 4]) ∧ Stp w w' := by
  have h0 := Stp.refl w
  have g0 : ((l.length : Int) != 512) = false := by simp; omega
  have Hl := Lib.hid (show l.length < 9223372036854775808 by omega)
  have Hz := Lib.hid hz
  have Hb0 := Lib.hid (Blk.new w 81 (hcells zeroH))
  have Ha := Lib.hid (ha.keep (Stp.alloc h0 (.cells (hcells zeroH) 81)))
  obtain ⟨gz, hgz⟩ : ∃ x, w.heap.size = x := ⟨_, rfl⟩
  rw [hgz] at Hb0
  clear h512 hz ha
  go_enter Tryz.func89, Tryz.ntmps89
  go_wp2_with (first
    | (go_at_call 96; refine (zero_s l _ _ _ Ha.out Hl.out).mono ?_; rintro e w1 ⟨rfl, hs⟩; rw [Hz.out]; have Hb1 := Lib.hid (Hb0.out.keep hs Hb0.out.lt); have H1 := Lib.hid (Stp.trans (Stp.alloc h0 _) hs); clear hs; obtain ⟨⟨z0, z1, z2, z3, z4, z5, z6, z7, z8, z9, z10⟩, ⟨y0, y1, y2, y3, y4, y5, y6, y7, y8, y9, y10⟩⟩ := zy Hb1.out))
  have hf := fill_blk zeroH Hb1.out
  have hst := fill_stp (g := gz) zeroH H1.out (by omega)
  change bodyPost _ _ _ _ _ (fillW w1 gz zeroH)
  generalize fillW w1 gz zeroH = W at hf hst ⊢
  clear z0 z1 z2 z3 z4 z5 z6 z7 z8 z9 z10 y0 y1 y2 y3 y4 y5 y6 y7 y8 y9 y10
  obtain ⟨p0, p1, p2, p3, p4, p5, p6, p7, p8, p9, p10⟩ := hd_cells hf
  refine bodyPost_ret (v := .tuple #[hv zeroH, .int .i64 4]) (by simp [results, Tryz.results89, go_sem, *]) rfl ⟨rfl, hst⟩

set_option maxHeartbeats 4000000 in
set_option maxRecDepth 100000 in
theorem hget_sum (l : L) (A : Option Addr) (c : Nat) (w : World) (ha : RdA w A c (bs l)) (h512 : l.length = 512) (hz : zeroV l = false) (hne : sub l 148 8 ≠ sumT l) :
    Calls Tryz.prog 89 #[.slice A l.length c] w fun e w' => e = .returned (.tuple #[hv zeroH, .int .i64 3]) ∧ Stp w w' := by
  have h0 := Stp.refl w
  have g0 : ((l.length : Int) != 512) = false := by simp; omega
  have Hl := Lib.hid (show l.length < 9223372036854775808 by omega)
  have Hz := Lib.hid hz
  have Hb0 := Lib.hid (Blk.new w 81 (hcells zeroH))
  have Ha := Lib.hid (ha.keep (Stp.alloc h0 (.cells (hcells zeroH) 81)))
  obtain ⟨gz, hgz⟩ : ∃ x, w.heap.size = x := ⟨_, rfl⟩
  rw [hgz] at Hb0
  have H512 := Lib.hid h512
  obtain ⟨b, o, rfl, hcell⟩ := ha.at_ (j := 0) (by rw [bs_length]; omega)
  have hcl := ha.length_le
  rw [bs_length] at hcl
  have hsl := slice148 b o l.length c (by omega)
  have hsl2 := sliceAt148 b o l.length c (by omega)
  obtain ⟨T, hT⟩ : ∃ T, sub l 148 8 = T := ⟨_, rfl⟩
  obtain ⟨S, hS⟩ : ∃ S, sumT l = S := ⟨_, rfl⟩
  have HS := Lib.hid hS
  have hcv : ∀ W, Stp w W → (convert 26 9 (.slice (some ⟨b, o + 148, none⟩) 8 (c - 148))).run Tryz.prog W = .ok (.string ⟨T.toArray⟩) W := fun W hW => by
    rw [← hT]
    exact Num.str_of W _ _ _ (rd_sub (ha.keep hW) (i := 148) (n := 8) (by omega))
  have Hcv := Lib.hid hcv
  rw [hT, hS] at hne
  have hq : (T == S) = false := beq_eq_false_iff_ne.2 hne
  clear h512 hz ha hcell hcl hcv hT hS hne
  go_enter Tryz.func89, Tryz.ntmps89
  go_wp2_with (first
    | (go_at_call 96; refine (zero_s l _ _ _ Ha.out Hl.out).mono ?_; rintro e w1 ⟨rfl, hs⟩; rw [Hz.out]; have Hb1 := Lib.hid (Hb0.out.keep hs Hb0.out.lt); have H1 := Lib.hid (Stp.trans (Stp.alloc h0 _) hs); have Ha1 := Lib.hid (Ha.out.keep hs); clear hs))
  go_region_held3 (fun w' => (convert 26 9 (.slice (some ⟨b, o + 148, none⟩) 8 (c - 148))).run Tryz.prog w' = .ok (.string ⟨T.toArray⟩) w')
    (first | exact Hcv.out _ (stp_drew H1.out) | exact Hcv.out _ H2.out)
    (first | (go_at_call 122; refine (sumText_s l _ _ w1.drew (show RdA w1.drew _ _ _ from Ha1.out) H512.out).mono ?_; rintro e w2 ⟨rfl, hs⟩; rw [HS.out]; have H2 := Lib.hid (Stp.trans (stp_drew H1.out) hs); have Hb2 := Lib.hid ((show Blk w1.drew gz 81 (hcells zeroH) from Hb1.out).keep hs Hb1.out.lt); have Ha2 := Lib.hid ((show RdA w1.drew (some ⟨b, o, none⟩) c (bs l) from Ha1.out).keep hs); clear hs))
  obtain ⟨⟨z0, z1, z2, z3, z4, z5, z6, z7, z8, z9, z10⟩, ⟨y0, y1, y2, y3, y4, y5, y6, y7, y8, y9, y10⟩⟩ := zy Hb2.out
  go_wp2_with fail
  have hf := fill_blk zeroH Hb2.out
  have hst := fill_stp (g := gz) zeroH H2.out (by omega)
  change bodyPost _ _ _ _ _ (fillW w2 gz zeroH)
  generalize fillW w2 gz zeroH = W at hf hst ⊢
  clear z0 z1 z2 z3 z4 z5 z6 z7 z8 z9 z10 y0 y1 y2 y3 y4 y5 y6 y7 y8 y9 y10
  obtain ⟨p0, p1, p2, p3, p4, p5, p6, p7, p8, p9, p10⟩ := hd_cells hf
  refine bodyPost_ret (v := .tuple #[hv zeroH, .int .i64 3]) (by simp [results, Tryz.results89, go_sem, *]) rfl ⟨rfl, hst⟩

set_option maxHeartbeats 4000000 in
set_option maxRecDepth 100000 in
theorem hget_form (l : L) (A : Option Addr) (c : Nat) (w : World) (ha : RdA w A c (bs l)) (h512 : l.length = 512) (hz : zeroV l = false) (hne : sub l 148 8 = sumT l) (hno : ¬ (mayH (guessH l) = true ∧ blk (guessH l) = l)) :
    Calls Tryz.prog 89 #[.slice A l.length c] w fun e w' => e = .returned (.tuple #[hv zeroH, .int .i64 2]) ∧ Stp w w' := by
  have h0 := Stp.refl w
  have g0 : ((l.length : Int) != 512) = false := by simp; omega
  have Hl := Lib.hid (show l.length < 9223372036854775808 by omega)
  have Hz := Lib.hid hz
  have Hb0 := Lib.hid (Blk.new w 81 (hcells zeroH))
  have Ha := Lib.hid (ha.keep (Stp.alloc h0 (.cells (hcells zeroH) 81)))
  obtain ⟨gz, hgz⟩ : ∃ x, w.heap.size = x := ⟨_, rfl⟩
  rw [hgz] at Hb0
  have H512 := Lib.hid h512
  obtain ⟨b, o, rfl, hcell⟩ := ha.at_ (j := 0) (by rw [bs_length]; omega)
  have hcl := ha.length_le
  rw [bs_length] at hcl
  have hsl := slice148 b o l.length c (by omega)
  have hsl2 := sliceAt148 b o l.length c (by omega)
  obtain ⟨T, hT⟩ : ∃ T, sub l 148 8 = T := ⟨_, rfl⟩
  obtain ⟨S, hS⟩ : ∃ S, sumT l = S := ⟨_, rfl⟩
  have HS := Lib.hid hS
  have hcv : ∀ W, Stp w W → (convert 26 9 (.slice (some ⟨b, o + 148, none⟩) 8 (c - 148))).run Tryz.prog W = .ok (.string ⟨T.toArray⟩) W := fun W hW => by
    rw [← hT]
    exact Num.str_of W _ _ _ (rd_sub (ha.keep hW) (i := 148) (n := 8) (by omega))
  have Hcv := Lib.hid hcv
  rw [hT, hS] at hne
  have hq : (T == S) = true := by rw [hne]; simp
  obtain ⟨G, hG⟩ : ∃ G, guessH l = G := ⟨_, rfl⟩
  have HG := Lib.hid hG
  have hsm := small_guess h512
  rw [hG] at hsm
  have Hsm := Lib.hid hsm
  have heq := putB_eq (h := G) h512
  rw [hG] at hno
  rw [decide_eq_false hno] at heq
  have Heq := Lib.hid heq
  clear h512 hz ha hcell hcl hcv hT hS hne hG hsm heq hno
  go_enter Tryz.func89, Tryz.ntmps89
  go_wp2_with (first
    | (go_at_call 96; refine (zero_s l _ _ _ Ha.out Hl.out).mono ?_; rintro e w1 ⟨rfl, hs⟩; rw [Hz.out]; have Hb1 := Lib.hid (Hb0.out.keep hs Hb0.out.lt); have H1 := Lib.hid (Stp.trans (Stp.alloc h0 _) hs); have Ha1 := Lib.hid (Ha.out.keep hs); clear hs))
  go_region_held3 (fun w' => (convert 26 9 (.slice (some ⟨b, o + 148, none⟩) 8 (c - 148))).run Tryz.prog w' = .ok (.string ⟨T.toArray⟩) w')
    (first | exact Hcv.out _ (stp_drew H1.out) | exact Hcv.out _ H2.out)
    (first | (go_at_call 122; refine (sumText_s l _ _ w1.drew (show RdA w1.drew _ _ _ from Ha1.out) H512.out).mono ?_; rintro e w2 ⟨rfl, hs⟩; rw [HS.out]; have H2 := Lib.hid (Stp.trans (stp_drew H1.out) hs); have Hb2 := Lib.hid ((show Blk w1.drew gz 81 (hcells zeroH) from Hb1.out).keep hs Hb1.out.lt); have Ha2 := Lib.hid ((show RdA w1.drew (some ⟨b, o, none⟩) c (bs l) from Ha1.out).keep hs); clear hs))
  go_wp2_with (first
    | (go_at_call 128; refine (guess_s l _ _ _ Ha2.out H512.out).mono ?_; rintro e w3 ⟨rfl, hs⟩; rw [HG.out]; have H3 := Lib.hid (Stp.trans H2.out hs); have Hb3 := Lib.hid (Hb2.out.keep hs Hb2.out.lt); have Ha3 := Lib.hid (Ha2.out.keep hs); clear hs Hb2 Ha2)
    | (go_at_call 81; refine (put_s G Hsm.out _).mono ?_; rintro e w4 ⟨A4, c4, rfl, hr, hs⟩; have Hr4 := Lib.hid hr; have H4 := Lib.hid (Stp.trans (Stp.alloc H3.out _) hs); have Hb4 := Lib.hid ((Hb3.out.alloc _).keep hs (Hb3.out.alloc _).lt); have Hg4 := Lib.hid ((Blk.new w3 81 (hcells G)).keep hs (Blk.new w3 81 (hcells G)).lt); have Ha4 := Lib.hid ((Ha3.out.keep (Stp.alloc (Stp.refl w3) _)).keep hs); have hlt3 := Hb3.out.lt; clear hr hs Hb3 Ha3; generalize mayH G = mg)
    | (go_at_call 129; refine (equal_s (putB G) l _ _ _ _ _ Hr4.out Ha4.out).mono ?_; rintro e w5 ⟨rfl, hs⟩; rw [Heq.out]; have H5 := Lib.hid (Stp.trans H4.out hs); have Hb5 := Lib.hid (Hb4.out.keep hs Hb4.out.lt); have Hg5 := Lib.hid (Hg4.out.keep hs Hg4.out.lt); clear hs Hb4 Hg4 Hr4 Ha4; obtain ⟨⟨z0, z1, z2, z3, z4, z5, z6, z7, z8, z9, z10⟩, ⟨y0, y1, y2, y3, y4, y5, y6, y7, y8, y9, y10⟩⟩ := zy Hb5.out))
  have hf := fill_blk zeroH Hb5.out
  have hst := fill_stp (g := gz) zeroH H5.out (by omega)
  change bodyPost _ _ _ _ _ (fillW w5 gz zeroH)
  generalize fillW w5 gz zeroH = W at hf hst ⊢
  clear z0 z1 z2 z3 z4 z5 z6 z7 z8 z9 z10 y0 y1 y2 y3 y4 y5 y6 y7 y8 y9 y10
  obtain ⟨p0, p1, p2, p3, p4, p5, p6, p7, p8, p9, p10⟩ := hd_cells hf
  refine bodyPost_ret (v := .tuple #[hv zeroH, .int .i64 2]) (by simp [results, Tryz.results89, go_sem, *]) rfl ⟨rfl, hst⟩

set_option maxHeartbeats 4000000 in
set_option maxRecDepth 100000 in
theorem hget_ok (l : L) (A : Option Addr) (c : Nat) (w : World) (ha : RdA w A c (bs l)) (h512 : l.length = 512) (hz : zeroV l = false) (hne : sub l 148 8 = sumT l) (hno : mayH (guessH l) = true ∧ blk (guessH l) = l) :
    Calls Tryz.prog 89 #[.slice A l.length c] w fun e w' => e = .returned (.tuple #[hv (guessH l), .int .i64 0]) ∧ Stp w w' := by
  have h0 := Stp.refl w
  have g0 : ((l.length : Int) != 512) = false := by simp; omega
  have Hl := Lib.hid (show l.length < 9223372036854775808 by omega)
  have Hz := Lib.hid hz
  have Hb0 := Lib.hid (Blk.new w 81 (hcells zeroH))
  have Ha := Lib.hid (ha.keep (Stp.alloc h0 (.cells (hcells zeroH) 81)))
  obtain ⟨gz, hgz⟩ : ∃ x, w.heap.size = x := ⟨_, rfl⟩
  rw [hgz] at Hb0
  have H512 := Lib.hid h512
  obtain ⟨b, o, rfl, hcell⟩ := ha.at_ (j := 0) (by rw [bs_length]; omega)
  have hcl := ha.length_le
  rw [bs_length] at hcl
  have hsl := slice148 b o l.length c (by omega)
  have hsl2 := sliceAt148 b o l.length c (by omega)
  obtain ⟨T, hT⟩ : ∃ T, sub l 148 8 = T := ⟨_, rfl⟩
  obtain ⟨S, hS⟩ : ∃ S, sumT l = S := ⟨_, rfl⟩
  have HS := Lib.hid hS
  have hcv : ∀ W, Stp w W → (convert 26 9 (.slice (some ⟨b, o + 148, none⟩) 8 (c - 148))).run Tryz.prog W = .ok (.string ⟨T.toArray⟩) W := fun W hW => by
    rw [← hT]
    exact Num.str_of W _ _ _ (rd_sub (ha.keep hW) (i := 148) (n := 8) (by omega))
  have Hcv := Lib.hid hcv
  rw [hT, hS] at hne
  have hq : (T == S) = true := by rw [hne]; simp
  obtain ⟨G, hG⟩ : ∃ G, guessH l = G := ⟨_, rfl⟩
  have HG := Lib.hid hG
  have hsm := small_guess h512
  rw [hG] at hsm ⊢
  have Hsm := Lib.hid hsm
  have heq := putB_eq (h := G) h512
  rw [hG] at hno
  rw [decide_eq_true hno] at heq
  have Heq := Lib.hid heq
  clear h512 hz ha hcell hcl hcv hT hS hne hG hsm heq hno
  go_enter Tryz.func89, Tryz.ntmps89
  go_wp2_with (first
    | (go_at_call 96; refine (zero_s l _ _ _ Ha.out Hl.out).mono ?_; rintro e w1 ⟨rfl, hs⟩; rw [Hz.out]; have Hb1 := Lib.hid (Hb0.out.keep hs Hb0.out.lt); have H1 := Lib.hid (Stp.trans (Stp.alloc h0 _) hs); have Ha1 := Lib.hid (Ha.out.keep hs); clear hs))
  go_region_held3 (fun w' => (convert 26 9 (.slice (some ⟨b, o + 148, none⟩) 8 (c - 148))).run Tryz.prog w' = .ok (.string ⟨T.toArray⟩) w')
    (first | exact Hcv.out _ (stp_drew H1.out) | exact Hcv.out _ H2.out)
    (first | (go_at_call 122; refine (sumText_s l _ _ w1.drew (show RdA w1.drew _ _ _ from Ha1.out) H512.out).mono ?_; rintro e w2 ⟨rfl, hs⟩; rw [HS.out]; have H2 := Lib.hid (Stp.trans (stp_drew H1.out) hs); have Hb2 := Lib.hid ((show Blk w1.drew gz 81 (hcells zeroH) from Hb1.out).keep hs Hb1.out.lt); have Ha2 := Lib.hid ((show RdA w1.drew (some ⟨b, o, none⟩) c (bs l) from Ha1.out).keep hs); clear hs))
  go_wp2_with (first
    | (go_at_call 128; refine (guess_s l _ _ _ Ha2.out H512.out).mono ?_; rintro e w3 ⟨rfl, hs⟩; rw [HG.out]; have H3 := Lib.hid (Stp.trans H2.out hs); have Hb3 := Lib.hid (Hb2.out.keep hs Hb2.out.lt); have Ha3 := Lib.hid (Ha2.out.keep hs); clear hs Hb2 Ha2)
    | (go_at_call 81; refine (put_s G Hsm.out _).mono ?_; rintro e w4 ⟨A4, c4, rfl, hr, hs⟩; have Hr4 := Lib.hid hr; have H4 := Lib.hid (Stp.trans (Stp.alloc H3.out _) hs); have Hb4 := Lib.hid ((Hb3.out.alloc _).keep hs (Hb3.out.alloc _).lt); have Hg4 := Lib.hid ((Blk.new w3 81 (hcells G)).keep hs (Blk.new w3 81 (hcells G)).lt); have Ha4 := Lib.hid ((Ha3.out.keep (Stp.alloc (Stp.refl w3) _)).keep hs); have hlt3 := Hb3.out.lt; clear hr hs Hb3 Ha3; generalize mayH G = mg)
    | (go_at_call 129; refine (equal_s (putB G) l _ _ _ _ _ Hr4.out Ha4.out).mono ?_; rintro e w5 ⟨rfl, hs⟩; rw [Heq.out]; have H5 := Lib.hid (Stp.trans H4.out hs); have Hb5 := Lib.hid (Hb4.out.keep hs Hb4.out.lt); have Hg5 := Lib.hid (Hg4.out.keep hs Hg4.out.lt); clear hs Hb4 Hg4 Hr4 Ha4; obtain ⟨⟨z0, z1, z2, z3, z4, z5, z6, z7, z8, z9, z10⟩, ⟨y0, y1, y2, y3, y4, y5, y6, y7, y8, y9, y10⟩⟩ := zy Hb5.out; obtain ⟨x0, x1, x2, x3, x4, x5, x6, x7, x8, x9, x10⟩ := hd_cells Hg5.out))
  have hf := fill_blk G Hb5.out
  have hst := fill_stp (g := gz) G H5.out (by omega)
  change bodyPost _ _ _ _ _ (fillW w5 gz G)
  generalize fillW w5 gz G = W at hf hst ⊢
  clear x0 x1 x2 x3 x4 x5 x6 x7 x8 x9 x10 z0 z1 z2 z3 z4 z5 z6 z7 z8 z9 z10 y0 y1 y2 y3 y4 y5 y6 y7 y8 y9 y10
  obtain ⟨p0, p1, p2, p3, p4, p5, p6, p7, p8, p9, p10⟩ := hd_cells hf
  refine bodyPost_ret (v := .tuple #[hv G, .int .i64 0]) (by simp [results, Tryz.results89, go_sem, *]) rfl ⟨rfl, hst⟩

theorem hget_s (l : L) (A : Option Addr) (c : Nat) (w : World) (ha : RdA w A c (bs l)) :
    Calls Tryz.prog 89 #[.slice A l.length c] w fun e w' => e = .returned (.tuple #[hv (getH l), .int .i64 (codeB l)]) ∧ Stp w w' := by
  unfold getH codeB
  by_cases h512 : l.length = 512
  · rw [if_pos h512]
    by_cases hz : l = zeros 512
    · rw [if_pos hz, if_neg (by decide)]
      exact hget_zero l A c w ha h512 (zeroV_iff.2 (by rw [h512]; exact hz))
    · rw [if_neg hz]
      have hz2 : zeroV l = false := by
        rw [Bool.eq_false_iff]
        intro h
        have := zeroV_iff.1 h
        rw [h512] at this
        exact hz this
      by_cases hs : sub l 148 8 = sumT l
      · rw [if_pos hs]
        by_cases hm : mayH (guessH l) = true ∧ blk (guessH l) = l
        · rw [if_pos hm, if_pos rfl]
          exact hget_ok l A c w ha h512 hz2 hs hm
        · rw [if_neg hm, if_neg (by decide)]
          exact hget_form l A c w ha h512 hz2 hs hm
      · rw [if_neg hs, if_neg (by decide)]
        exact hget_sum l A c w ha h512 hz2 hs
  · rw [if_neg h512, if_neg (by decide)]
    exact hget_arg l A c w h512
end Go.Proofs.YtieefnnfnimflaaGreat.Head
