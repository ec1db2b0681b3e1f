/-
  The law CheckCut, walked over the contracts: no statement is proved here.
-/
import Derived.Test.YtllnnlmhbmladaaGreatDoorCheckI
import Derived.Deep.RegionWith
import Derived.Deep.RegionLaw
import Derived.BigQuiet
namespace Go.Proofs.YtllnnlmhbmladaaGreatDoor.Check
open Go.Sort Go.RowKit Go.Proofs.YtllnnlmhbmladaaGreatDoor.Str Go.Proofs.YtllnnlmhbmladaaGreatDoor.Base Go.Proofs.YtllnnlmhbmladaaGreatDoor.Node Go.Proofs.YtllnnlmhbmladaaGreatDoor.VolM Go.Proofs.YtllnnlmhbmladaaGreatDoor.Vol Go.Proofs.YtllnnlmhbmladaaGreatDoor.StripM Go.Proofs.YtllnnlmhbmladaaGreatDoor.CheckM
open Go.Proofs.YtllnnlmhbmladaaGreatDoor.TapeM (Tp)
open Go.Proofs.YtllnnlmhbmladaaGreatDoor.Tape (FewT SmallT tc tcs tcells)
open Go.Proofs.YtllnnlmhbmladaaGreatDoor.Drive (RdS RowS)
open Go.Proofs.YtllnnlmhbmladaaGreatDoor.Parse (St zeroS)
set_option linter.unusedVariables false

theorem str_c {w : World} {A : Option Addr} {n c : Nat} {l : List UInt8} (hn : l.length = n) (h : RdA w A c (bs l)) : (convert 46 9 (.slice A n c)).run Tryz.prog w = .ok (.string ⟨l.toArray⟩) w := by
  have h' := h
  unfold RdA at h'
  rw [bs_length, hn] at h'
  exact run_string_rd (P := Tryz.prog) w 46 9 5 Tryz.underlying46 Tryz.underlying5 Tryz.underlying9 _ _ _ h'
theorem cut_to (A : Option Addr) (N c k : Nat) (hk : k ≤ N) (hN : N ≤ c) (w : World) : ∃ A', (∀ w : World, (Instr.slice 36 (.slice A N c) none (some (.int .i64 (k : Int))) none).run Tryz.prog w = .ok (.slice A' k c) w) ∧
    ∀ (w : World) (ls : LL), RdL w A c ls → RdL w A' c (ls.take k) := by
  have he : Tryz.prog.elem 36 = 46 := by kernel_rfl
  by_cases hc : c = 0
  · refine ⟨A, fun w => ?_, fun w ls h => Entry.rdL_take h k⟩
    rw [run_slice_h (P := Tryz.prog) w 36 _ _ _ (by rw [he]; exact Tryz.underlying36) .i64 k (by omega) (by omega), he, Entry.sl_size]
    simp only [Result.andThen_ok, sliced]
    rw [if_pos (by omega)]
    rfl
  · refine ⟨A.map (fun a => a.add 0), fun w => ?_, fun w ls h => ?_⟩
    · rw [run_slice_h (P := Tryz.prog) w 36 _ _ _ (by rw [he]; exact Tryz.underlying36) .i64 k (by omega) (by omega), he, Entry.sl_size]
      simp only [Result.andThen_ok, sliced]
      rw [if_neg (by omega)]
      simp only [Int.toNat_natCast, Nat.zero_mul, Nat.sub_zero]
    · by_cases hn : ls = []
      · subst hn
        rw [List.take_nil]
        exact Entry.rdL_none _ _ _
      · obtain ⟨b, o, A1, c1, rfl, -, -⟩ := h.at_ (j := 0) (List.getElem?_eq_getElem (List.length_pos_iff.2 hn))
        show RdL w (some ((⟨b, o, none⟩ : Addr).add 0)) c (ls.take k)
        rw [Addr.add_lit, Nat.add_zero]
        exact Entry.rdL_take h k
set_option maxRecDepth 100000 in
set_option maxHeartbeats 4000000 in
theorem cut_out {Tb : World → Prop} (I : CheckI Tb) (cap : Int) (ls : LL) (m : Bool) (n : Nat) (hn : ls.length = n) (hn9 : n < 9223372036854775808) (he : ∀ l ∈ ls, l.length < 9223372036854775808) (A : Option Addr) (k : Nat) (kk : Int) (w : World) (ha : RdL w A k ls) (htab : Tb w)
    (h : Rec.fewR ls = false ∨ decide (kk < 0) = true ∨ decide ((n : Int) < kk) = true) :
    Calls Tryz.prog 5 #[tc cap A n k m, .int .i64 kk] w fun e w' => e = .returned (.bool true) ∧ Stp w w' := by
  have h0 := Lib.hid (Stp.alloc (Stp.refl w) (.cells (tcs cap A n k m) 38))
  have Hb := Lib.hid (Blk.new w 38 (tcs cap A n k m))
  obtain ⟨⟨t0, t1, t2⟩, -, -, -⟩ := Tape.tt_all Hb.out
  have HI := Lib.hid I
  have HT := Lib.hid htab
  have Hn := Lib.hid hn
  have He := Lib.hid he
  have Ha := Lib.hid ha
  obtain ⟨f1, F1'⟩ : ∃ b, Rec.fewR ls = b := ⟨_, rfl⟩
  obtain ⟨f2, F2⟩ : ∃ b, decide (kk < 0) = b := ⟨_, rfl⟩
  obtain ⟨f3, F3⟩ : ∃ b, decide ((n : Int) < kk) = b := ⟨_, rfl⟩
  rw [F1', F2, F3] at h
  have F1 := Lib.hid F1'
  have key : (f1 = false) ∨ (f1 = true ∧ f2 = true) ∨ (f1 = true ∧ f2 = false ∧ f3 = true) := by
    cases f1 <;> cases f2 <;> cases f3 <;> simp at h ⊢
  clear I htab hn ha he h F1'
  rcases key with rfl | ⟨rfl, rfl⟩ | ⟨rfl, rfl, rfl⟩
  all_goals
    go_enter Tryz.func5, Tryz.ntmps5
    go_wp2_with (first
      | (go_at_call 6; (refine (awake_s HI.out _ (HI.out.keep HT.out h0.out)).mono ?_); rintro e wn ⟨rfl, hs⟩; replace h0 := Lib.hid (Stp.trans h0.out hs); replace Hb := Lib.hid (Hb.out.keep hs Hb.out.lt); clear hs t0 t1 t2; obtain ⟨⟨t0, t1, t2⟩, -, -, -⟩ := Tape.tt_all Hb.out)
      | (go_at_call 13; (refine (Rec.fewr_n ls n Hn.out A k _ (Ha.out.keep h0.out) hn9 He.out).mono ?_); rintro e wn ⟨rfl, hs⟩; rw [F1.out]; replace h0 := Lib.hid (Stp.trans h0.out hs); replace Hb := Lib.hid (Hb.out.keep hs Hb.out.lt); clear hs t0 t1 t2; obtain ⟨⟨t0, t1, t2⟩, -, -, -⟩ := Tape.tt_all Hb.out))
    go_ret
    exact ⟨rfl, h0.out⟩
set_option maxRecDepth 100000 in
set_option maxHeartbeats 16000000 in
theorem cut_in {Tb : World → Prop} (I : CheckI Tb) (cap : Int) (ls : LL) (m : Bool) (n : Nat) (hn : ls.length = n) (hn9 : n < 9223372036854775808) (hsm : SmallT ⟨cap, ls, m⟩) (A : Option Addr) (k : Nat) (q : Nat) (w : World) (ha : RdL w A k ls) (htab : Tb w)
    (f1 : Rec.fewR ls = true) (hq : q ≤ n) :
    Calls Tryz.prog 5 #[tc cap A n k m, .int .i64 (q : Int)] w fun e w' => e = .returned (.bool true) ∧ Stp w w' := by
  obtain ⟨⟨a1, a2⟩, a3⟩ := Rec.fewR_iff.1 f1
  rw [hn] at a1
  have hfc : FewC ⟨cap, ls, m⟩ := few_c hsm f1
  have hfx : FewC ⟨cap, ls.take q, m⟩ := few_c (t := ⟨cap, ls.take q, m⟩) ⟨hsm.low, hsm.high, by show (ls.take q).length < _; rw [List.length_take]; omega, fun l hl => hsm.each l (List.mem_of_mem_take hl)⟩ (by
    show Rec.fewR (ls.take q) = true
    refine Rec.fewR_iff.2 ⟨⟨by rw [List.length_take]; omega, ?_⟩, fun r hr => a3 r (List.mem_of_mem_take hr)⟩
    have h := congrArg List.length (congrArg List.flatten (List.take_append_drop q ls))
    rw [List.flatten_append, List.length_append] at h
    omega)
  have hnk := ha.length_le
  rw [hn] at hnk
  obtain ⟨Ax, s1, s2⟩ := cut_to A n k q hq hnk w
  obtain ⟨V, E, hV⟩ : ∃ V E, CheckM.blocksT ⟨cap, ls, m⟩ = (V, E) := ⟨_, _, rfl⟩
  obtain ⟨U, G, hU⟩ : ∃ U G, CheckM.blocksT ⟨cap, ls.take q, m⟩ = (U, G) := ⟨_, _, rfl⟩
  obtain ⟨x0, i0, e0, hW⟩ : ∃ x i e, whoT ⟨cap, ls, m⟩ = (x, i, e) := ⟨_, _, _, rfl⟩
  obtain ⟨x9, i9, e9, hY⟩ : ∃ x i e, whoT ⟨cap, ls.take q, m⟩ = (x, i, e) := ⟨_, _, _, rfl⟩
  obtain ⟨zv, hzv⟩ : ∃ z, V.length = z := ⟨_, rfl⟩
  obtain ⟨zu, hzu⟩ : ∃ z, U.length = z := ⟨_, rfl⟩
  have hxl : (ls.take q).length = q := by rw [List.length_take]; omega
  have h0 := Lib.hid (Stp.alloc (Stp.refl w) (.cells (tcs cap A n k m) 38))
  have Hb := Lib.hid (Blk.new w 38 (tcs cap A n k m))
  obtain ⟨⟨t0, t1, t2⟩, -, -, -⟩ := Tape.tt_all Hb.out
  have HI := Lib.hid I
  have HT := Lib.hid htab
  have Hn := Lib.hid hn
  have He : Hid (∀ l ∈ ls, l.length < 9223372036854775808) := Lib.hid hsm.each
  have Ha := Lib.hid ha
  have F1 := Lib.hid f1
  have Hfc := Lib.hid hfc
  have Hfx := Lib.hid hfx
  have HV := Lib.hid hV
  have HU := Lib.hid hU
  have HW := Lib.hid hW
  have HY := Lib.hid hY
  have Hzv := Lib.hid hzv
  have Hzu := Lib.hid hzu
  have Hxl := Lib.hid hxl
  have Hax := Lib.hid (s2 w ls ha)
  have g1 : decide ((q : Int) < 0) = false := decide_eq_false (by omega)
  have g2 : decide ((n : Int) < (q : Int)) = false := decide_eq_false (by omega)
  have g3 : ¬ n < q := by omega
  have Hmay : Hid (E ≠ 0 ∨ (E = 0 ∧ G = 0 ∧ (∃ r, V = U ++ r) ∧ (∀ b ∈ V, b.length = 512) ∧ V.length ≤ 1000 ∧ (q = 0 → e9 = 7) ∧ (0 < q → x9 = x0 ∧ i9 = i0 ∧ e9 = e0))) := Lib.hid (by
    by_cases hm : TapeM.mayT ⟨cap, ls, m⟩ = true
    · right
      have hm2 : TapeM.mayT ⟨cap, ls.take q, m⟩ = true := cut_may hm q
      rw [CheckM.blocksT, if_pos hm] at hV
      rw [CheckM.blocksT, if_pos hm2] at hU
      cases hV
      cases hU
      refine ⟨rfl, rfl, cut_blocks hm q, blocks_512 ls, hfc.blocks, ?_, ?_⟩
      · rintro rfl
        rw [whoT, if_pos hm2] at hY
        have h2 : RecM.blocksV (ls.take 0) = [] := cut_none hm
        dsimp only at hY
        rw [h2] at hY
        cases hY
        rfl
      · intro h
        have h2 : whoT ⟨cap, ls.take q, m⟩ = whoT ⟨cap, ls, m⟩ := cut_some hm h (by show q ≤ ls.length; omega)
        rw [hY, hW] at h2
        cases h2
        exact ⟨rfl, rfl, rfl⟩
    · left
      rw [CheckM.blocksT, if_neg hm] at hV
      cases hV
      decide)
  clear I htab hn ha hsm f1 hfc hfx hV hU hW hY hzv hzu hxl s2 a1 a2 a3
  go_enter Tryz.func5, Tryz.ntmps5
  go_upto_region 5 with (first
    | (go_at_call 6; (refine (awake_s HI.out _ (HI.out.keep HT.out h0.out)).mono ?_); rintro e wn ⟨rfl, hs⟩; replace h0 := Lib.hid (Stp.trans h0.out hs); replace Hb := Lib.hid (Hb.out.keep hs Hb.out.lt); clear hs t0 t1 t2; obtain ⟨⟨t0, t1, t2⟩, -, -, -⟩ := Tape.tt_all Hb.out)
    | (go_at_call 13; (refine (Rec.fewr_n ls n Hn.out A k _ (Ha.out.keep h0.out) hn9 He.out).mono ?_); rintro e wn ⟨rfl, hs⟩; rw [F1.out]; replace h0 := Lib.hid (Stp.trans h0.out hs); replace Hb := Lib.hid (Hb.out.keep hs Hb.out.lt); clear hs t0 t1 t2; obtain ⟨⟨t0, t1, t2⟩, -, -, -⟩ := Tape.tt_all Hb.out))
  go_upto_region 6 with fail
  have Hx := Lib.hid (Blk.new wn 38 (tcs cap A n k m))
  have hal := Stp.alloc (Stp.refl wn) (.cells (tcs cap A n k m) 38)
  have hlt := Hb.out.lt
  have hge := h0.out.size
  replace h0 := Lib.hid (Stp.trans h0.out hal)
  replace Hb := Lib.hid (Hb.out.keep hal Hb.out.lt)
  clear t0 t1 t2
  change Code.wp _ _ _ _ (wn.alloc (.cells (tcs cap A n k m) 38))
  obtain ⟨gx, hgx⟩ : ∃ g, wn.heap.size = g := ⟨_, rfl⟩
  rw [hgx] at Hx hlt hge ⊢
  have hne : w.heap.size ≠ gx := by omega
  have hle : w.heap.size ≤ gx := by omega
  clear hal hgx hge
  generalize wn.alloc (.cells (tcs cap A n k m) 38) = W at Hx h0 Hb ⊢
  obtain ⟨⟨t0, t1, t2⟩, -, -, -⟩ := Tape.tt_all Hb.out
  obtain ⟨⟨x0', x1', x2'⟩, y0, y1, y2⟩ := Tape.tt_all Hx.out
  go_upto_region 7 with fail
  change Code.wp _ _ _ _ (W.setCell ⟨gx, 1, none⟩ (.slice Ax q k))
  have Hx2 : Hid (Blk (W.setCell ⟨gx, 1, none⟩ (.slice Ax q k)) gx 38 (tcs cap Ax q k m)) := Lib.hid (Hx.out.put 1 (.slice Ax q k))
  have Hb2 := Lib.hid (Hb.out.far (p := ⟨gx, 1, none⟩) hne (.slice Ax q k))
  have h2 := Lib.hid (Below.setCell h0.out (p := ⟨gx, 1, none⟩) hle (.slice Ax q k))
  clear t0 t1 t2 x0' x1' x2' y0 y1 y2 Hx Hb h0
  generalize W.setCell ⟨gx, 1, none⟩ (.slice Ax q k) = W2 at Hx2 Hb2 h2 ⊢
  have Hx := Lib.hid Hx2.out
  have Hb := Lib.hid Hb2.out
  have h0 : Hid (Stp w W2) := Lib.hid h2.out
  clear Hx2 Hb2 h2
  obtain ⟨⟨t0, t1, t2⟩, -, -, -⟩ := Tape.tt_all Hb.out
  obtain ⟨⟨x0', x1', x2'⟩, -, -, -⟩ := Tape.tt_all Hx.out
  rcases Hmay.out with hE | ⟨rfl, rfl, ⟨r, hVr⟩, h512, h1000, hq0, hq1⟩
  · have g4 : (E != 0) = true := by simpa using hE
    clear hE
    go_wp2_with (first
      | (go_at_call 14; (with_reducible refine (HI.out.blocks cap ls m n Hfc.out Hn.out V E HV.out zv Hzv.out A k _ (Ha.out.keep h0.out)).mono ?_); rintro e w3 ⟨B3, d3, rfl, hr, hs⟩; replace h0 := Lib.hid (Stp.trans h0.out hs); clear hr; replace Hb := Lib.hid (Hb.out.keep hs Hb.out.lt); replace Hx := Lib.hid (Hx.out.keep hs Hx.out.lt); clear hs t0 t1 t2 x0' x1' x2'; obtain ⟨⟨t0, t1, t2⟩, -, -, -⟩ := Tape.tt_all Hb.out; obtain ⟨⟨x0', x1', x2'⟩, -, -, -⟩ := Tape.tt_all Hx.out)
      | (go_at_call 14; (with_reducible refine (HI.out.blocks cap (ls.take q) m q Hfx.out Hxl.out U G HU.out zu Hzu.out Ax k _ (Hax.out.keep h0.out)).mono ?_); rintro e w4 ⟨B4, d4, rfl, hr, hs⟩; replace h0 := Lib.hid (Stp.trans h0.out hs); clear hr; replace Hb := Lib.hid (Hb.out.keep hs Hb.out.lt); replace Hx := Lib.hid (Hx.out.keep hs Hx.out.lt); clear hs t0 t1 t2 x0' x1' x2'; obtain ⟨⟨t0, t1, t2⟩, -, -, -⟩ := Tape.tt_all Hb.out; obtain ⟨⟨x0', x1', x2'⟩, -, -, -⟩ := Tape.tt_all Hx.out))
    go_ret
    exact ⟨rfl, h0.out⟩
  · have hzz : zu ≤ zv := by rw [← Hzu.out, ← Hzv.out, hVr, List.length_append]; omega
    have hz1 : zv ≤ 1000 := by rw [← Hzv.out]; exact h1000
    have g4 : decide ((zv : Int) < (zu : Int)) = false := decide_eq_false (by omega)
    have g5 : ¬ zv < zu := by omega
    have HVr := Lib.hid hVr
    have H512 := Lib.hid h512
    have Hq0 := Lib.hid hq0
    have Hq1 := Lib.hid hq1
    have Hz1 := Lib.hid hz1
    have Hzz := Lib.hid hzz
    clear hVr h512 h1000 hq0 hq1 hz1 hzz
    go_upto_region 13 with (first
      | (go_at_call 14; (with_reducible refine (HI.out.blocks cap ls m n Hfc.out Hn.out V 0 HV.out zv Hzv.out A k _ (Ha.out.keep h0.out)).mono ?_); rintro e w3 ⟨B3, d3, rfl, hr, hs⟩; replace h0 := Lib.hid (Stp.trans h0.out hs); have HR3 := Lib.hid hr; clear hr; replace Hb := Lib.hid (Hb.out.keep hs Hb.out.lt); replace Hx := Lib.hid (Hx.out.keep hs Hx.out.lt); clear hs t0 t1 t2 x0' x1' x2'; obtain ⟨⟨t0, t1, t2⟩, -, -, -⟩ := Tape.tt_all Hb.out; obtain ⟨⟨x0', x1', x2'⟩, -, -, -⟩ := Tape.tt_all Hx.out)
      | (go_at_call 14; (with_reducible refine (HI.out.blocks cap (ls.take q) m q Hfx.out Hxl.out U 0 HU.out zu Hzu.out Ax k _ (Hax.out.keep h0.out)).mono ?_); rintro e w4 ⟨B4, d4, rfl, hr, hs⟩; replace h0 := Lib.hid (Stp.trans h0.out hs); replace HR3 := Lib.hid (HR3.out.keep hs); have HR4 := Lib.hid hr; clear hr; replace Hb := Lib.hid (Hb.out.keep hs Hb.out.lt); replace Hx := Lib.hid (Hx.out.keep hs Hx.out.lt); clear hs t0 t1 t2 x0' x1' x2'; obtain ⟨⟨t0, t1, t2⟩, -, -, -⟩ := Tape.tt_all Hb.out; obtain ⟨⟨x0', x1', x2'⟩, -, -, -⟩ := Tape.tt_all Hx.out))
    clear t0 t1 t2 x0' x1' x2'
    go_wp2_with fail
    go_loopw [12] (fun iv wr => ∃ j : Nat, j ≤ zu ∧ iv = .int .i64 (j : Int) ∧ Hid (Stp w4 wr)) (fun iv _ => zu - (intOf iv).toNat)
    case atStart => exact ⟨0, by omega, rfl, Lib.hid (Stp.refl _)⟩
    case round =>
      obtain ⟨j, hj, rfl, HS⟩ := hrel
      have hzu1 : zu ≤ 1000 := by have := Hzz.out; have := Hz1.out; omega
      by_cases hlt : j < zu
      · obtain ⟨b, hb⟩ : ∃ b, U[j]? = some b := ⟨_, List.getElem?_eq_getElem (by rw [Hzu.out]; exact hlt)⟩
        have hbv : V[j]? = some b := by rw [HVr.out, List.getElem?_append_left (by rw [Hzu.out]; exact hlt)]; exact hb
        have hb5 := H512.out b (List.mem_of_getElem? hbv)
        obtain ⟨b3, o3, A3, c3, rfl, cc3, ra3⟩ := (HR3.out.keep HS.out).at_ hbv
        obtain ⟨b4, o4, A4, c4, rfl, cc4, ra4⟩ := (HR4.out.keep HS.out).at_ hb
        rw [hb5] at cc3 cc4
        have cv1 : ∀ g, (convert 46 9 (.slice A3 512 c3)).run Tryz.prog (wr.drewN g) = .ok (.string ⟨b.toArray⟩) (wr.drewN g) := fun g => str_c hb5 (RdA.keep ra3 (Stp.drewN (Stp.refl wr) g))
        have cv2 : ∀ g, (convert 46 9 (.slice A4 512 c4)).run Tryz.prog (wr.drewN g) = .ok (.string ⟨b.toArray⟩) (wr.drewN g) := fun g => str_c hb5 (RdA.keep ra4 (Stp.drewN (Stp.refl wr) g))
        have g6 : decide ((j : Int) < (zu : Int)) = true := decide_eq_true (by omega)
        have g7 : j < zv := by have := Hzz.out; omega
        have hzv1 := Hz1.out
        clear hb hbv hb5 ra3 ra4
        go_wp2_with fail
        go_quiet (fail)
        go_wp2_with fail
        go_roundw
        case rel => exact ⟨j + 1, by omega, by go_num, Lib.hid (Stp.drewN HS.out _)⟩
        case measure => simp [intOf]; omega
      · obtain rfl : j = zu := by omega
        have g6 : decide ((j : Int) < (j : Int)) = false := decide_eq_false (by omega)
        replace h0 := Lib.hid (Stp.trans h0.out HS.out)
        replace Hb := Lib.hid (Hb.out.keep HS.out Hb.out.lt)
        replace Hx := Lib.hid (Hx.out.keep HS.out Hx.out.lt)
        obtain ⟨⟨t0, t1, t2⟩, -, -, -⟩ := Tape.tt_all Hb.out
        obtain ⟨⟨x0', x1', x2'⟩, -, -, -⟩ := Tape.tt_all Hx.out
        clear hlt hj
        have key : (((q : Int) == 0) = true ∧ e9 = 7) ∨ (((q : Int) == 0) = false ∧ decide ((0 : Int) < (q : Int)) = true ∧ 0 < q ∧ x9 = x0 ∧ i9 = i0 ∧ e9 = e0) := by
          by_cases h : q = 0
          · exact .inl ⟨by rw [h]; rfl, Hq0.out h⟩
          · exact .inr ⟨beq_eq_false_iff_ne.2 (by omega), decide_eq_true (by omega), by omega, Hq1.out (by omega)⟩
        rcases key with ⟨k1, rfl⟩ | ⟨k1, k2, k3, rfl, rfl, rfl⟩
        all_goals
          go_wp2_with (first
            | (go_at_call 12; (with_reducible refine (HI.out.who cap ls m n Hfc.out Hn.out _ _ _ HW.out A k _ (Ha.out.keep h0.out) (HI.out.keep HT.out h0.out)).mono ?_); rintro e w5 ⟨rfl, hs⟩; replace h0 := Lib.hid (Stp.trans h0.out hs); replace Hb := Lib.hid (Hb.out.keep hs Hb.out.lt); replace Hx := Lib.hid (Hx.out.keep hs Hx.out.lt); clear hs t0 t1 t2 x0' x1' x2'; obtain ⟨⟨t0, t1, t2⟩, -, -, -⟩ := Tape.tt_all Hb.out; obtain ⟨⟨x0', x1', x2'⟩, -, -, -⟩ := Tape.tt_all Hx.out)
            | (go_at_call 12; (with_reducible refine (HI.out.who cap (ls.take q) m q Hfx.out Hxl.out _ _ _ HY.out Ax k _ (Hax.out.keep h0.out) (HI.out.keep HT.out h0.out)).mono ?_); rintro e w6 ⟨rfl, hs⟩; replace h0 := Lib.hid (Stp.trans h0.out hs); replace Hb := Lib.hid (Hb.out.keep hs Hb.out.lt); replace Hx := Lib.hid (Hx.out.keep hs Hx.out.lt); clear hs t0 t1 t2 x0' x1' x2'; obtain ⟨⟨t0, t1, t2⟩, -, -, -⟩ := Tape.tt_all Hb.out; obtain ⟨⟨x0', x1', x2'⟩, -, -, -⟩ := Tape.tt_all Hx.out))
          go_ret
          exact ⟨by simp_all, h0.out⟩
theorem cut_walk {Tb : World → Prop} (I : CheckI Tb) (t : Tp) (A : Option Addr) (k : Nat) (hs : SmallT t) (kk : Int) (w : World) (ha : RdL w A k t.rows) (htab : Tb w) :
    Calls Tryz.prog 5 #[tc t.cap A t.rows.length k t.mark, .int .i64 kk] w fun e w' => e = .returned (.bool true) ∧ Stp w w' := by
  obtain ⟨cap, ls, m⟩ := t
  obtain ⟨n, hn⟩ : ∃ n, ls.length = n := ⟨_, rfl⟩
  have hn9 : n < 9223372036854775808 := by rw [← hn]; exact hs.few
  dsimp only at ha ⊢
  rw [hn]
  by_cases h : Rec.fewR ls = false ∨ decide (kk < 0) = true ∨ decide ((n : Int) < kk) = true
  · exact cut_out I cap ls m n hn hn9 hs.each A k kk w ha htab h
  · rw [not_or, not_or] at h
    obtain ⟨q, rfl⟩ : ∃ q : Nat, kk = (q : Int) := ⟨kk.toNat, by have := h.2.1; simp at this; omega⟩
    exact cut_in I cap ls m n hn hn9 hs A k q w ha htab (by simpa using h.1) (by have := h.2.2; simp at this; omega)
end Go.Proofs.YtllnnlmhbmladaaGreatDoor.Check
