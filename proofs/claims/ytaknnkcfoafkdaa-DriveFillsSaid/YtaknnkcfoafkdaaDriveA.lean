/-
  Stage 13's awake: no statement is proved here.
-/
import Derived.Test.YtaknnkcfoafkdaaDriveRd
import Derived.Test.YtaknnkcfoafkdaaTapeA
import Derived.Test.YtaknnkcfoafkdaaDriveC
namespace Go.Proofs.Ytaknnkcfoafkdaa.Drive
open Go.RowKit Go.Proofs.Ytaknnkcfoafkdaa.Str Go.Proofs.Ytaknnkcfoafkdaa.Base Go.Proofs.Ytaknnkcfoafkdaa.BlockM Go.Proofs.Ytaknnkcfoafkdaa.RecM Go.Proofs.Ytaknnkcfoafkdaa.TapeM Go.Proofs.Ytaknnkcfoafkdaa.Tape Go.Proofs.Ytaknnkcfoafkdaa.DriveM
set_option linter.unusedVariables false

open Go.Proofs.Ytaknnkcfoafkdaa.Tape in
/-- A literal of one tape. -/
theorem lit_one (w : World) {c : Int} {A : Option Addr} {n k : Nat} {m : Bool} {ls : List L} (h : RdL w A k ls) (hn : ls.length = n) : RdS (w.alloc (.cells (tcs c A n k m) 41)) (some ⟨w.heap.size, 0, none⟩) 1 [⟨c, ls, m⟩] := by
  subst hn
  refine rdS_blk (w0 := w) (Blk.new w _ _) (by simp) (Stp.alloc (Stp.refl w) _) fun j t hj => ?_
  cases j with
  | succ j => simp at hj
  | zero =>
    simp only [List.getElem?_cons_zero, Option.some.injEq] at hj
    subst hj
    exact ⟨A, k, rfl, rfl, rfl, h⟩
theorem new_drive {w3 W : World} {A : Option Addr} {n k : Nat} {i p : Int} {ts : List Tp} (h0 : Stp W w3) (hr : RdS w3 A k ts) :
    Blk (w3.alloc (.cells (dcs A n k i p) 24)) w3.heap.size 24 (dcs A n k i p) ∧ RdS (w3.alloc (.cells (dcs A n k i p) 24)) A k ts ∧ Stp W (w3.alloc (.cells (dcs A n k i p) 24)) :=
  ⟨Blk.new w3 _ _, hr.keep (Stp.alloc (Stp.refl _) _), Stp.alloc h0 _⟩
theorem fill_drive {w3 W : World} {q : Nat} {A : Option Addr} {n k : Nat} {i p : Int} {ts : List Tp} (h0 : Stp W w3) (hp : W.heap.size ≤ q) (hN : Blk w3 q 24 (dcs none 0 0 0 0)) (hc : ClearS q w3 A k ts) :
    Blk (fillD w3 q A n k i p) q 24 (dcs A n k i p) ∧ RdS (fillD w3 q A n k i p) A k ts ∧ Stp W (fillD w3 q A n k i p) :=
  ⟨filld_blk A n k i p hN, hc _ (filld_grown _ _ _ _ _ _ _), filld_stp A n k i p h0 hp⟩
/-- The example's drives. -/
theorem dex_facts (z : L) (hl : z.length = 512) : newD [(⟨2, [], false⟩ : Tp)] = (⟨[(⟨2, [], false⟩ : Tp)], -1, 0⟩, true) ∧ readD ⟨[(⟨2, [], false⟩ : Tp)], -1, 0⟩ = (⟨[(⟨2, [], false⟩ : Tp)], -1, 0⟩, [], 9) ∧ mountD ⟨[(⟨2, [], false⟩ : Tp)], -1, 0⟩ 0 = (⟨[(⟨2, [], false⟩ : Tp)], 0, 0⟩, 0) ∧ writeD ⟨[(⟨2, [], false⟩ : Tp)], 0, 0⟩ z = (⟨[(⟨2, [z], false⟩ : Tp)], 0, 1⟩, 0) ∧ rewindD ⟨[(⟨2, [z], false⟩ : Tp)], 0, 1⟩ = (⟨[(⟨2, [z], false⟩ : Tp)], 0, 0⟩, 0) ∧ readD ⟨[(⟨2, [z], false⟩ : Tp)], 0, 0⟩ = (⟨[(⟨2, [z], false⟩ : Tp)], 0, 1⟩, z, 0) ∧
    markD ⟨[(⟨2, [z], false⟩ : Tp)], 0, 1⟩ = (⟨[(⟨2, [z], true⟩ : Tp)], 0, 1⟩, 0) ∧ unmountD ⟨[(⟨2, [z], true⟩ : Tp)], 0, 1⟩ = (⟨[(⟨2, [z], true⟩ : Tp)], -1, 0⟩, 0) ∧ mayD ⟨[(⟨2, [z], true⟩ : Tp)], -1, 0⟩ = true ∧ mayD ⟨[(⟨2, [], false⟩ : Tp)], -1, 0⟩ = true ∧ mayD ⟨[(⟨2, [], false⟩ : Tp)], 0, 0⟩ = true ∧ mayD ⟨[(⟨2, [z], false⟩ : Tp)], 0, 1⟩ = true ∧ mayD ⟨[(⟨2, [z], false⟩ : Tp)], 0, 0⟩ = true ∧ mayD ⟨[(⟨2, [z], true⟩ : Tp)], 0, 1⟩ = true := by
  have h2 : mayR z = true := mayR_iff.2 ⟨by omega, by omega, by omega⟩
  have m0 : ∀ t ∈ [(⟨2, [], false⟩ : Tp)], mayT t = true := by
    intro t ht
    rw [List.mem_singleton.1 ht]
    exact mayT_iff.2 ⟨by simp, by simp, by simp, by simp⟩
  have m1 : ∀ t ∈ [(⟨2, [z], false⟩ : Tp)], mayT t = true := by
    intro t ht
    rw [List.mem_singleton.1 ht]
    exact mayT_iff.2 ⟨by simp, by simp, by simp, by simpa using h2⟩
  have m2 : ∀ t ∈ [(⟨2, [z], true⟩ : Tp)], mayT t = true := by
    intro t ht
    rw [List.mem_singleton.1 ht]
    exact mayT_iff.2 ⟨by simp, by simp, by simp, by simpa using h2⟩
  have d0 : mayD ⟨[(⟨2, [], false⟩ : Tp)], -1, 0⟩ = true := mayD_iff.2 ⟨by simp, by simp, by simp, by simp, m0, rfl⟩
  have d1 : mayD ⟨[(⟨2, [], false⟩ : Tp)], 0, 0⟩ = true := mayD_iff.2 ⟨by simp, by simp, by simp, by simp, m0, rfl⟩
  have d2 : mayD ⟨[(⟨2, [z], false⟩ : Tp)], 0, 1⟩ = true := mayD_iff.2 ⟨by simp, by simp, by simp, by simp, m1, rfl⟩
  have d3 : mayD ⟨[(⟨2, [z], false⟩ : Tp)], 0, 0⟩ = true := mayD_iff.2 ⟨by simp, by simp, by simp, by simp, m1, rfl⟩
  have d4 : mayD ⟨[(⟨2, [z], true⟩ : Tp)], 0, 1⟩ = true := mayD_iff.2 ⟨by simp, by simp, by simp, by simp, m2, rfl⟩
  have d5 : mayD ⟨[(⟨2, [z], true⟩ : Tp)], -1, 0⟩ = true := mayD_iff.2 ⟨by simp, by simp, by simp, by simp, m2, rfl⟩
  have w0 : whyD ⟨[(⟨2, [], false⟩ : Tp)], -1, 0⟩ = 9 := by rw [whyD, d0, if_neg (by simp), if_pos (by simp)]
  have w1 : whyD ⟨[(⟨2, [], false⟩ : Tp)], 0, 0⟩ = 0 := whyD_may d1 (by simp)
  have w2 : whyD ⟨[(⟨2, [z], false⟩ : Tp)], 0, 1⟩ = 0 := whyD_may d2 (by simp)
  have w3 : whyD ⟨[(⟨2, [z], false⟩ : Tp)], 0, 0⟩ = 0 := whyD_may d3 (by simp)
  have w4 : whyD ⟨[(⟨2, [z], true⟩ : Tp)], 0, 1⟩ = 0 := whyD_may d4 (by simp)
  refine ⟨by rw [newD, if_pos d0], ?_, ?_, ?_, ?_, ?_, ?_, ?_, d5, d0, d1, d2, d3, d4⟩
  · rw [readD, w0, if_pos (by omega)]
  · rw [mountD, d0, if_neg (by simp), if_neg (by simp)]
  · obtain ⟨h3, -⟩ := writeD_when (j := 0) (p := 0) (t := ⟨2, [], false⟩) (r := z) d1 rfl rfl rfl (by simp) h2
    obtain ⟨j, p, t, -, e1, e2, e3, -, -, -, -, -, e8, -⟩ := writeD_ok (h3.2 (by simp))
    have e1' : j = 0 := by have : (0 : Int) = (j : Int) := e1; omega
    have e2' : p = 0 := by have : (0 : Int) = (p : Int) := e2; omega
    subst e1' e2'
    have e4 : t = ⟨2, [], false⟩ := by simpa using e3.symm
    subst e4
    rw [e8]
    rfl
  · rw [rewindD, w2, if_neg (by simp)]
  · have h4 : readV ⟨2, [z], false⟩ 0 = (z, 0) := by
      rw [readV_yes (m1 _ (by simp)) (by omega) (by simp)]
      rfl
    rw [readD, w3, if_neg (by simp), tapeD_at (j := 0) rfl rfl]
    dsimp only
    rw [h4]
    rfl
  · rw [(markD_ok (j := 0) (p := 1) (t := ⟨2, [z], false⟩) d2 rfl rfl rfl (by simp)).1]
    rfl
  · rw [unmountD, w4, if_neg (by simp)]
set_option maxRecDepth 100000 in
set_option maxHeartbeats 4000000 in
theorem awake_s (w : World) : Calls Try.prog 9 #[] w fun e w' => e = .returned (.bool true) ∧ Stp w w' := by
  have H := Lib.hid (Stp.refl w)
  obtain ⟨z, hz⟩ : ∃ z, noughts 512 = z := ⟨_, rfl⟩
  have f0 : z.length = 512 := by rw [← hz, noughts_length]
  obtain ⟨x1, x2, x3, x4, x5, x6, x7, x8, x9, y0, y1, y2, y3, y4⟩ := dex_facts z f0
  have Hz := Lib.hid hz
  have F0 := Lib.hid f0
  have F1 : Hid (newV 2 = (⟨2, [], false⟩, true)) := Lib.hid (by rw [newV, if_pos (by omega)])
  have FN := Lib.hid x1
  have FR0 := Lib.hid x2
  have FM := Lib.hid x3
  have FWr := Lib.hid x4
  have FRw := Lib.hid x5
  have FR1 := Lib.hid x6
  have FMk := Lib.hid x7
  have FU := Lib.hid x8
  have FMay := Lib.hid x9
  have FD0 := Lib.hid (few_may y0)
  have FD1 := Lib.hid (few_may y1)
  have FD2 := Lib.hid (few_may y2)
  have FD3 := Lib.hid (few_may y3)
  have FD4 := Lib.hid (few_may y4)
  have FD5 := Lib.hid (few_may x9)
  have FW0 : Hid (∀ t ∈ [(⟨2, [], false⟩ : Tp)], FewT t) := Lib.hid (few_may y0).each
  have HI := Lib.hid driveI
  have L0 : Hid ([(⟨2, [], false⟩ : Tp)].length = 1) := Lib.hid rfl
  have LB : Hid ([(⟨2, [z], false⟩ : Tp)].length = 1) := Lib.hid rfl
  have LM : Hid ([(⟨2, [z], true⟩ : Tp)].length = 1) := Lib.hid rfl
  have LE : Hid (([] : L).length = 0) := Lib.hid rfl
  clear hz f0 x1 x2 x3 x4 x5 x6 x7 x8 x9 y0 y1 y2 y3 y4
  obtain ⟨zs, hzs⟩ : ∃ zs : Array Value, Array.replicate 512 (Value.int .u8 0) = zs := ⟨_, rfl⟩
  have hmk := mk_zs hzs
  have Hzs := Lib.hid hzs
  clear hzs
  go_enter Try.func9, Try.ntmps9
  go_upto_region 5 with (first
    | (go_at_call 31; refine (new_s 2 (by omega) (by omega) 2 [] false true 0 F1.out rfl _).mono ?_; rintro e w1 ⟨A0, k0, rfl, ha, hs, -⟩; have hsA := Stp.alloc hs (.cells (tcs 2 A0 0 k0 false) 41); have hsB := Stp.alloc hsA (.cells (tcs 2 A0 0 k0 false) 41); replace H := Lib.hid (Stp.trans H.out hsB); have lt0 := (lit_one (w1.alloc (.cells (tcs 2 A0 0 k0 false) 41)) (c := 2) (n := 0) (m := false) (ha.keep (Stp.alloc (Stp.refl w1) (.cells (tcs 2 A0 0 k0 false) 41))) rfl); rw [World.size_alloc] at lt0; have LT := Lib.hid lt0; have T1 := Lib.hid (Blk.new w1 41 (tcs 2 A0 0 k0 false)); obtain ⟨⟨r0, r1, r2⟩, -, -, -⟩ := tt_all T1.out; clear ha hs hsA hsB lt0)
    | (go_at_call 23; (with_reducible refine (HI.out.new [(⟨2, [], false⟩ : Tp)] 1 L0.out (by omega) FW0.out [(⟨2, [], false⟩ : Tp)] (-1) 0 true 1 FN.out L0.out _ 1 _ LT.out).mono ?_); rintro e w3 ⟨Aw3, kw3, rfl, hr, hs, -⟩; have hsA := Stp.alloc hs (.cells (dcs Aw3 1 kw3 (-1) 0) 24); replace H := Lib.hid (Stp.trans H.out hsA); have D3 := Lib.hid (Blk.new w3 24 (dcs Aw3 1 kw3 (-1) 0)); have RD3 := Lib.hid (hr.keep (Stp.alloc (Stp.refl w3) (.cells (dcs Aw3 1 kw3 (-1) 0) 24))); obtain ⟨⟨aa0, aa1, aa2⟩, -, -, -⟩ := dd_all D3.out; clear hr hs hsA r0 r1 r2)
    | (go_at_call 21; (with_reducible refine (HI.out.read [(⟨2, [], false⟩ : Tp)] (-1) 0 1 FD0.out L0.out [(⟨2, [], false⟩ : Tp)] (-1) 0 [] 1 0 9 FR0.out L0.out LE.out 9 rfl _ _ _ RD3.out).mono ?_); rintro e w5 ⟨Aw5, kw5, Bx5, dx5, rfl, hr, hx, hs, -⟩; have hsA := Stp.alloc hs (.cells (dcs Aw5 1 kw5 (-1) 0) 24); replace H := Lib.hid (Stp.trans H.out hsA); replace D3 := Lib.hid (D3.out.keep hsA D3.out.lt); replace RD3 := Lib.hid (RD3.out.keep hsA); have D5 := Lib.hid (Blk.new w5 24 (dcs Aw5 1 kw5 (-1) 0)); have RD5 := Lib.hid (hr.keep (Stp.alloc (Stp.refl w5) (.cells (dcs Aw5 1 kw5 (-1) 0) 24))); have RX5 := Lib.hid (hx.keep (Stp.alloc (Stp.refl w5) (.cells (dcs Aw5 1 kw5 (-1) 0) 24))); clear aa0 aa1 aa2; obtain ⟨⟨aa0, aa1, aa2⟩, -, -, -⟩ := dd_all D3.out; obtain ⟨⟨ab0, ab1, ab2⟩, -, -, -⟩ := dd_all D5.out; clear hr hs hsA hx)
    | (go_at_call 11; (with_reducible refine (HI.out.mount [(⟨2, [], false⟩ : Tp)] (-1) 0 1 FD0.out L0.out 0 (by omega) (by omega) [(⟨2, [], false⟩ : Tp)] 0 0 1 0 FM.out L0.out 0 rfl _ _ _ RD3.out).mono ?_); rintro e w8 ⟨Aw8, kw8, rfl, hr, hs, -⟩; have hsA := Stp.alloc hs (.cells (dcs Aw8 1 kw8 0 0) 24); replace H := Lib.hid (Stp.trans H.out hsA); replace D3 := Lib.hid (D3.out.keep hsA D3.out.lt); replace D5 := Lib.hid (D5.out.keep hsA D5.out.lt); replace RD3 := Lib.hid (RD3.out.keep hsA); replace RD5 := Lib.hid (RD5.out.keep hsA); replace RX5 := Lib.hid (RX5.out.keep hsA); have D8 := Lib.hid (Blk.new w8 24 (dcs Aw8 1 kw8 0 0)); have RD8 := Lib.hid (hr.keep (Stp.alloc (Stp.refl w8) (.cells (dcs Aw8 1 kw8 0 0) 24))); clear aa0 aa1 aa2; obtain ⟨⟨aa0, aa1, aa2⟩, -, -, -⟩ := dd_all D3.out; clear ab0 ab1 ab2; obtain ⟨⟨ab0, ab1, ab2⟩, -, -, -⟩ := dd_all D5.out; obtain ⟨⟨ac0, ac1, ac2⟩, -, -, -⟩ := dd_all D8.out; clear hr hs hsA))
  obtain ⟨PB, hPB⟩ : ∃ x, w8.heap.size = x := ⟨_, rfl⟩
  obtain ⟨P5, hP5⟩ : ∃ x, w5.heap.size = x := ⟨_, rfl⟩
  obtain ⟨P3, hP3⟩ : ∃ x, w3.heap.size = x := ⟨_, rfl⟩
  obtain ⟨W, hW⟩ : ∃ z, w8.alloc (.cells (dcs Aw8 1 kw8 0 0) 24) = z := ⟨_, rfl⟩
  rw [hW] at H D3 D5 D8 RD3 RD5 RD8 RX5 aa0 aa1 aa2 ab0 ab1 ab2 ac0 ac1 ac2 ⊢
  rw [hPB] at D8 ac0 ac1 ac2 ⊢
  rw [hP5] at D5 ab0 ab1 ab2 ⊢
  rw [hP3] at D3 aa0 aa1 aa2 ⊢
  clear hW hPB hP5 hP3 aa0 aa1 aa2 ab0 ab1 ab2 ac0 ac1 ac2
  go_cut [10, 11] from 43 (fun s10 s11 wx => ∃ p10 A9 k9, s10 = .pointer (some ⟨p10, 0, none⟩) ∧ s11 = .int .i64 0 ∧ Hid (Blk wx p10 24 (dcs A9 1 k9 0 1)) ∧ Hid (RdS wx A9 k9 [(⟨2, [z], false⟩ : Tp)]) ∧ Hid (Stp W wx))
  case first =>
    obtain ⟨⟨q0, q1, q2⟩, -, -, -⟩ := dd_all (Blk.drew D8.out)
    have X1 := Lib.hid (show Stp W (W.alloc (.cells zs 5)).drew from Stp.drewN (Stp.alloc (Stp.refl W) _) 1)
    have X2 := Lib.hid (show Stp W ((W.alloc (.cells zs 5)).alloc (.cells #[.slice none 0 0, .int .i64 0, .int .i64 0] 24)).drew from Stp.drewN (Stp.alloc (Stp.alloc (Stp.refl W) _) _) 1)
    have X3 := Lib.hid (show Stp W ((W.alloc (.cells #[.slice none 0 0, .int .i64 0, .int .i64 0] 24)).alloc (.cells zs 5)).drew from Stp.drewN (Stp.alloc (Stp.alloc (Stp.refl W) _) _) 1)
    obtain ⟨⟨a3, a4, a5⟩, -, -, -⟩ := dd_all (D8.out.alloc (.cells #[.slice none 0 0, .int .i64 0, .int .i64 0] 24))
    obtain ⟨⟨b3, b4, b5⟩, -, -, -⟩ := dd_all (D8.out.alloc (.cells zs 5))
    obtain ⟨⟨c3, c4, c5⟩, -, -, -⟩ := dd_all ((D8.out.alloc (.cells zs 5)).alloc (.cells #[.slice none 0 0, .int .i64 0, .int .i64 0] 24))
    obtain ⟨⟨d3, d4, d5⟩, -, -, -⟩ := dd_all ((D8.out.alloc (.cells #[.slice none 0 0, .int .i64 0, .int .i64 0] 24)).alloc (.cells zs 5))
    have M1 := Lib.hid ((mk_at Hzs.out Hz.out W).keep (show Stp _ (W.alloc (.cells zs 5)).drew from Stp.drewN (Stp.refl _) 1))
    have M2 := Lib.hid ((mk_at Hzs.out Hz.out W).keep (show Stp _ ((W.alloc (.cells zs 5)).alloc (.cells #[.slice none 0 0, .int .i64 0, .int .i64 0] 24)).drew from Stp.drewN (Stp.alloc (Stp.refl _) _) 1))
    have m3 := (mk_at Hzs.out Hz.out (W.alloc (.cells #[.slice none 0 0, .int .i64 0, .int .i64 0] 24))).keep (show Stp _ ((W.alloc (.cells #[.slice none 0 0, .int .i64 0, .int .i64 0] 24)).alloc (.cells zs 5)).drew from Stp.drewN (Stp.refl _) 1)
    have n2 := (Blk.new (W.alloc (.cells zs 5)) 24 #[.slice none 0 0, .int .i64 0, .int .i64 0]).drew
    rw [World.size_alloc] at n2 m3
    have M3 := Lib.hid m3
    have N2 : Hid (Blk _ (W.heap.size + 1) 24 (dcs none 0 0 0 0)) := Lib.hid n2
    have N3 : Hid (Blk _ W.heap.size 24 (dcs none 0 0 0 0)) := Lib.hid (((Blk.new W 24 #[.slice none 0 0, .int .i64 0, .int .i64 0]).alloc (.cells zs 5)).drew)
    clear n2 m3
    have C1 := Lib.hid (dwrite_c [(⟨2, [], false⟩ : Tp)] 0 0 1 FD1.out rfl z 512 F0.out (by omega) [(⟨2, [z], false⟩ : Tp)] 0 1 1 0 FWr.out rfl 0 rfl _ _ _ _ _ (RD8.out.keep X1.out) M1.out)
    have C2 := Lib.hid (dwrite_c [(⟨2, [], false⟩ : Tp)] 0 0 1 FD1.out rfl z 512 F0.out (by omega) [(⟨2, [z], false⟩ : Tp)] 0 1 1 0 FWr.out rfl 0 rfl _ _ _ _ _ (RD8.out.keep X2.out) M2.out)
    have C3 := Lib.hid (dwrite_c [(⟨2, [], false⟩ : Tp)] 0 0 1 FD1.out rfl z 512 F0.out (by omega) [(⟨2, [z], false⟩ : Tp)] 0 1 1 0 FWr.out rfl 0 rfl _ _ _ _ _ (RD8.out.keep X3.out) M3.out)
    go_region_law (first
      | (go_simp; go_at_call 17; (with_reducible refine (C1.out).mono ?_); rintro e w9 ⟨A9, k9, rfl, ha, hs, hc⟩; have K := Lib.hid (Stp.trans X1.out hs); have L9 := Lib.hid (new_drive (n := 1) (i := 0) (p := 1) K.out ha); clear ha hs hc)
      | (go_simp; go_at_call 17; (with_reducible refine (C2.out).mono ?_); rintro e w9 ⟨A9, k9, rfl, ha, hs, hc⟩; have N := Lib.hid (N2.out.keep hs N2.out.lt); have L9 := Lib.hid (fill_drive (n := 1) (i := 0) (p := 1) (Stp.trans X2.out hs) (Nat.le_succ _) N.out (hc _ N2.out.lt)); clear ha hs hc; obtain ⟨⟨n0, n1, n2⟩, m0, m1, m2⟩ := dd_all N.out)
      | (go_simp; go_at_call 17; (with_reducible refine (C3.out).mono ?_); rintro e w9 ⟨A9, k9, rfl, ha, hs, hc⟩; have N := Lib.hid (N3.out.keep hs N3.out.lt); have L9 := Lib.hid (fill_drive (n := 1) (i := 0) (p := 1) (Stp.trans X3.out hs) (Nat.le_refl _) N.out (hc _ N3.out.lt)); clear ha hs hc; obtain ⟨⟨n0, n1, n2⟩, m0, m1, m2⟩ := dd_all N.out))
    all_goals
      go_wp2_with fail
      go_meet
      with_reducible exact ⟨_, A9, k9, rfl, rfl, Lib.hid L9.out.1, Lib.hid L9.out.2.1, Lib.hid L9.out.2.2⟩
  case rest =>
    obtain ⟨p10, A9, k9, rfl, rfl, D10, RD10, HW⟩ := hcut
    obtain ⟨W3, hW3⟩ : ∃ z, z = wc := ⟨_, rfl⟩
    subst hW3
    replace H := Lib.hid (Stp.trans H.out HW.out)
    replace D3 := Lib.hid (D3.out.keep HW.out D3.out.lt)
    replace D5 := Lib.hid (D5.out.keep HW.out D5.out.lt)
    replace D8 := Lib.hid (D8.out.keep HW.out D8.out.lt)
    obtain ⟨⟨aa0, aa1, aa2⟩, -, -, -⟩ := dd_all D10.out
    clear RD3 RD5 RD8 RX5 D3 D5 D8
    go_wp2_with (first
      | (go_at_call 15; (with_reducible refine (HI.out.rewind [(⟨2, [z], false⟩ : Tp)] 0 1 1 FD2.out LB.out [(⟨2, [z], false⟩ : Tp)] 0 0 1 0 FRw.out LB.out 0 rfl _ _ _ RD10.out).mono ?_); rintro e w12 ⟨Aw12, kw12, rfl, hr, hs, -⟩; have hsA := Stp.alloc hs (.cells (dcs Aw12 1 kw12 0 0) 24); replace H := Lib.hid (Stp.trans H.out hsA); replace D10 := Lib.hid (D10.out.keep hsA D10.out.lt); replace RD10 := Lib.hid (RD10.out.keep hsA); have D12 := Lib.hid (Blk.new w12 24 (dcs Aw12 1 kw12 0 0)); have RD12 := Lib.hid (hr.keep (Stp.alloc (Stp.refl w12) (.cells (dcs Aw12 1 kw12 0 0) 24))); clear aa0 aa1 aa2; obtain ⟨⟨aa0, aa1, aa2⟩, -, -, -⟩ := dd_all D10.out; obtain ⟨⟨ab0, ab1, ab2⟩, -, -, -⟩ := dd_all D12.out; clear hr hs hsA)
      | (go_at_call 21; (with_reducible refine (HI.out.read [(⟨2, [z], false⟩ : Tp)] 0 0 1 FD3.out LB.out [(⟨2, [z], false⟩ : Tp)] 0 1 z 1 512 0 FR1.out LB.out F0.out 0 rfl _ _ _ RD12.out).mono ?_); rintro e w14 ⟨Aw14, kw14, Bx14, dx14, rfl, hr, hx, hs, -⟩; have hsA := Stp.alloc hs (.cells (dcs Aw14 1 kw14 0 1) 24); replace H := Lib.hid (Stp.trans H.out hsA); replace D10 := Lib.hid (D10.out.keep hsA D10.out.lt); replace D12 := Lib.hid (D12.out.keep hsA D12.out.lt); replace RD10 := Lib.hid (RD10.out.keep hsA); replace RD12 := Lib.hid (RD12.out.keep hsA); have D14 := Lib.hid (Blk.new w14 24 (dcs Aw14 1 kw14 0 1)); have RD14 := Lib.hid (hr.keep (Stp.alloc (Stp.refl w14) (.cells (dcs Aw14 1 kw14 0 1) 24))); have RX14 := Lib.hid (hx.keep (Stp.alloc (Stp.refl w14) (.cells (dcs Aw14 1 kw14 0 1) 24))); clear aa0 aa1 aa2; obtain ⟨⟨aa0, aa1, aa2⟩, -, -, -⟩ := dd_all D10.out; clear ab0 ab1 ab2; obtain ⟨⟨ab0, ab1, ab2⟩, -, -, -⟩ := dd_all D12.out; obtain ⟨⟨ac0, ac1, ac2⟩, -, -, -⟩ := dd_all D14.out; clear hr hs hsA hx)
      | (go_at_call 19; (with_reducible refine (HI.out.mark [(⟨2, [z], false⟩ : Tp)] 0 1 1 FD2.out LB.out [(⟨2, [z], true⟩ : Tp)] 0 1 1 0 FMk.out LM.out 0 rfl _ _ _ RD10.out).mono ?_); rintro e w17 ⟨Aw17, kw17, rfl, hr, hs, -⟩; have hsA := Stp.alloc hs (.cells (dcs Aw17 1 kw17 0 1) 24); replace H := Lib.hid (Stp.trans H.out hsA); replace D10 := Lib.hid (D10.out.keep hsA D10.out.lt); replace D12 := Lib.hid (D12.out.keep hsA D12.out.lt); replace D14 := Lib.hid (D14.out.keep hsA D14.out.lt); replace RD10 := Lib.hid (RD10.out.keep hsA); replace RD12 := Lib.hid (RD12.out.keep hsA); replace RD14 := Lib.hid (RD14.out.keep hsA); replace RX14 := Lib.hid (RX14.out.keep hsA); have D17 := Lib.hid (Blk.new w17 24 (dcs Aw17 1 kw17 0 1)); have RD17 := Lib.hid (hr.keep (Stp.alloc (Stp.refl w17) (.cells (dcs Aw17 1 kw17 0 1) 24))); clear aa0 aa1 aa2; obtain ⟨⟨aa0, aa1, aa2⟩, -, -, -⟩ := dd_all D10.out; clear ab0 ab1 ab2; obtain ⟨⟨ab0, ab1, ab2⟩, -, -, -⟩ := dd_all D12.out; clear ac0 ac1 ac2; obtain ⟨⟨ac0, ac1, ac2⟩, -, -, -⟩ := dd_all D14.out; obtain ⟨⟨ad0, ad1, ad2⟩, -, -, -⟩ := dd_all D17.out; clear hr hs hsA)
      | (go_at_call 13; (with_reducible refine (HI.out.unmount [(⟨2, [z], true⟩ : Tp)] 0 1 1 FD4.out LM.out [(⟨2, [z], true⟩ : Tp)] (-1) 0 1 0 FU.out LM.out 0 rfl _ _ _ RD17.out).mono ?_); rintro e w19 ⟨Aw19, kw19, rfl, hr, hs, -⟩; have hsA := Stp.alloc hs (.cells (dcs Aw19 1 kw19 (-1) 0) 24); replace H := Lib.hid (Stp.trans H.out hsA); replace D10 := Lib.hid (D10.out.keep hsA D10.out.lt); replace D12 := Lib.hid (D12.out.keep hsA D12.out.lt); replace D14 := Lib.hid (D14.out.keep hsA D14.out.lt); replace D17 := Lib.hid (D17.out.keep hsA D17.out.lt); replace RD10 := Lib.hid (RD10.out.keep hsA); replace RD12 := Lib.hid (RD12.out.keep hsA); replace RD14 := Lib.hid (RD14.out.keep hsA); replace RX14 := Lib.hid (RX14.out.keep hsA); replace RD17 := Lib.hid (RD17.out.keep hsA); have D19 := Lib.hid (Blk.new w19 24 (dcs Aw19 1 kw19 (-1) 0)); have RD19 := Lib.hid (hr.keep (Stp.alloc (Stp.refl w19) (.cells (dcs Aw19 1 kw19 (-1) 0) 24))); clear aa0 aa1 aa2; obtain ⟨⟨aa0, aa1, aa2⟩, -, -, -⟩ := dd_all D10.out; clear ab0 ab1 ab2; obtain ⟨⟨ab0, ab1, ab2⟩, -, -, -⟩ := dd_all D12.out; clear ac0 ac1 ac2; obtain ⟨⟨ac0, ac1, ac2⟩, -, -, -⟩ := dd_all D14.out; clear ad0 ad1 ad2; obtain ⟨⟨ad0, ad1, ad2⟩, -, -, -⟩ := dd_all D17.out; obtain ⟨⟨ae0, ae1, ae2⟩, -, -, -⟩ := dd_all D19.out; clear hr hs hsA; obtain ⟨bX, oX, AX, kX, eX, tX⟩ := tp_at RD17.out (j := 0) (t := ⟨2, [z], true⟩) rfl rfl; cases eX; dsimp only at tX; have TX := Lib.hid tX; have y2 := tX.c2; simp only [Nat.zero_mul, Nat.add_zero] at y2; clear tX)
      | (go_at_call 27; (with_reducible refine (HI.out.may [(⟨2, [z], true⟩ : Tp)] (-1) 0 1 FD5.out LM.out true FMay.out _ _ _ RD19.out).mono ?_); rintro e wn ⟨rfl, hs⟩; replace H := Lib.hid (Stp.trans H.out hs); replace D10 := Lib.hid (D10.out.keep hs D10.out.lt); replace D12 := Lib.hid (D12.out.keep hs D12.out.lt); replace D14 := Lib.hid (D14.out.keep hs D14.out.lt); replace D17 := Lib.hid (D17.out.keep hs D17.out.lt); replace D19 := Lib.hid (D19.out.keep hs D19.out.lt); replace RD10 := Lib.hid (RD10.out.keep hs); replace RD12 := Lib.hid (RD12.out.keep hs); replace RD14 := Lib.hid (RD14.out.keep hs); replace RX14 := Lib.hid (RX14.out.keep hs); replace RD17 := Lib.hid (RD17.out.keep hs); replace RD19 := Lib.hid (RD19.out.keep hs); clear aa0 aa1 aa2; obtain ⟨⟨aa0, aa1, aa2⟩, -, -, -⟩ := dd_all D10.out; clear ab0 ab1 ab2; obtain ⟨⟨ab0, ab1, ab2⟩, -, -, -⟩ := dd_all D12.out; clear ac0 ac1 ac2; obtain ⟨⟨ac0, ac1, ac2⟩, -, -, -⟩ := dd_all D14.out; clear ad0 ad1 ad2; obtain ⟨⟨ad0, ad1, ad2⟩, -, -, -⟩ := dd_all D17.out; clear ae0 ae1 ae2; obtain ⟨⟨ae0, ae1, ae2⟩, -, -, -⟩ := dd_all D19.out; replace TX := Lib.hid (TX.out.keep hs); clear y2; have y2 := TX.out.c2; simp only [Nat.zero_mul, Nat.add_zero] at y2; clear hs)
      | (go_at_call 28; (with_reducible refine (HI.out.same [(⟨2, [z], true⟩ : Tp)] (-1) 0 1 FD5.out LM.out [(⟨2, [z], true⟩ : Tp)] (-1) 0 1 FD5.out LM.out true (by simp) _ _ _ _ _ RD19.out RD19.out).mono ?_); rintro e wn ⟨rfl, hs⟩; replace H := Lib.hid (Stp.trans H.out hs); replace D10 := Lib.hid (D10.out.keep hs D10.out.lt); replace D12 := Lib.hid (D12.out.keep hs D12.out.lt); replace D14 := Lib.hid (D14.out.keep hs D14.out.lt); replace D17 := Lib.hid (D17.out.keep hs D17.out.lt); replace D19 := Lib.hid (D19.out.keep hs D19.out.lt); replace RD10 := Lib.hid (RD10.out.keep hs); replace RD12 := Lib.hid (RD12.out.keep hs); replace RD14 := Lib.hid (RD14.out.keep hs); replace RX14 := Lib.hid (RX14.out.keep hs); replace RD17 := Lib.hid (RD17.out.keep hs); replace RD19 := Lib.hid (RD19.out.keep hs); clear aa0 aa1 aa2; obtain ⟨⟨aa0, aa1, aa2⟩, -, -, -⟩ := dd_all D10.out; clear ab0 ab1 ab2; obtain ⟨⟨ab0, ab1, ab2⟩, -, -, -⟩ := dd_all D12.out; clear ac0 ac1 ac2; obtain ⟨⟨ac0, ac1, ac2⟩, -, -, -⟩ := dd_all D14.out; clear ad0 ad1 ad2; obtain ⟨⟨ad0, ad1, ad2⟩, -, -, -⟩ := dd_all D17.out; clear ae0 ae1 ae2; obtain ⟨⟨ae0, ae1, ae2⟩, -, -, -⟩ := dd_all D19.out; clear hs))
    all_goals go_ret
    all_goals exact ⟨rfl, H.out⟩
end Go.Proofs.Ytaknnkcfoafkdaa.Drive
