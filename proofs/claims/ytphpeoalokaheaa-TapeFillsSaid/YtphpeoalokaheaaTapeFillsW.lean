/-
  The law TapeFills, walked over the contracts: no statement is proved here.
-/
import Derived.Test.YtphpeoalokaheaaTapeB
import Derived.Test.YtphpeoalokaheaaTapeO
import Derived.Test.YtphpeoalokaheaaBlockRef
import Derived.Deep.RegionLaw
import Derived.Deep.Cut
namespace Go.Proofs.Ytphpeoalokaheaa.Tape
open Go.RowKit Go.Proofs.Ytphpeoalokaheaa.Str Go.Proofs.Ytphpeoalokaheaa.Base Go.Proofs.Ytphpeoalokaheaa.BlockM Go.Proofs.Ytphpeoalokaheaa.RecM Go.Proofs.Ytphpeoalokaheaa.TapeM
set_option linter.unusedVariables false

theorem rsame_p (P : List L) (x y : Nat) (hx : P.length = x) (hy : P.length = y) (A B : Option Addr) (c d : Nat) (w : World) (ha : RdL w A c P) (hb : RdL w B d P) (hl : x < 9223372036854775808) :
    Calls Try.prog 16 #[.slice A x c, .slice B y d] w fun e w' => e = .returned (.bool true) ∧ Stp w w' := by
  subst hx hy
  have h := Block.rsame_s P P A B c d w ha hb hl hl
  rw [show (P == P) = true by simp] at h
  exact h
set_option maxRecDepth 100000 in
set_option maxHeartbeats 2000000 in
theorem fills_no (I : TapeI) (c : Int) (ls : List L) (m : Bool) (n : Nat) (hs : SmallT ⟨c, ls, m⟩) (hn : ls.length = n) (A : Option Addr) (k : Nat) (w : World) (ha : RdL w A k ls) (rs : List L) (q : Nat) (hq : rs.length = q) (B : Option Addr) (d : Nat) (hr : RdL w B d rs) (hq2 : q < 9223372036854775808) (her : ∀ r ∈ rs, r.length < 9223372036854775808) (x y : Bool) (hF : Rec.fewR ls = x) (hFr : Rec.fewR rs = y) (hx : (x && y) = false) :
    Calls Try.prog 4 #[tc c A n k m, .slice B q d] w fun e w' => e = .returned (.bool true) ∧ Stp w w' := by
  have HI := Lib.hid I
  have HS := Lib.hid hs
  have Ha := Lib.hid ha
  have Hn := Lib.hid hn
  have HL := Lib.hid hs.each
  have HN : Hid (n < 9223372036854775808) := Lib.hid (by rw [← hn]; exact hs.few)
  have H := Lib.hid (Stp.alloc (Stp.refl w) (.cells (tcs c A n k m) 24))
  have B0 := Lib.hid (Blk.new w 24 (tcs c A n k m))
  obtain ⟨⟨q0, q1, q2⟩, -, -, -⟩ := tt_all B0.out
  have b1 := hs.low
  have b2 := hs.high
  dsimp only at b1 b2
  have Hr := Lib.hid hr
  have Hq := Lib.hid hq
  have Hq2 := Lib.hid hq2
  have Her := Lib.hid her
  have HF := Lib.hid hF
  have HFr := Lib.hid hFr
  clear hs hn ha hr hq hq2 her hF hFr
  cases x <;> cases y <;> simp at hx
  all_goals
    go_enter Try.func4, Try.ntmps4
    go_wp2_with (first
      | (go_at_call 9; refine (awake_s HI.out _).mono ?_; rintro e wn ⟨rfl, hs⟩; replace H := Lib.hid (Stp.trans H.out hs); replace B0 := Lib.hid (B0.out.keep hs B0.out.lt); clear q0 q1 q2; obtain ⟨⟨q0, q1, q2⟩, -, -, -⟩ := tt_all B0.out; clear hs)
      | (go_at_call 10; (with_reducible refine (Rec.fewr_n ls n Hn.out _ _ _ (Ha.out.keep H.out) HN.out HL.out).mono ?_); rintro e wn ⟨rfl, hs⟩; rw [HF.out]; replace H := Lib.hid (Stp.trans H.out hs); replace B0 := Lib.hid (B0.out.keep hs B0.out.lt); clear q0 q1 q2; obtain ⟨⟨q0, q1, q2⟩, -, -, -⟩ := tt_all B0.out; clear hs)
      | (go_at_call 10; (with_reducible refine (Rec.fewr_n rs q Hq.out _ _ _ (Hr.out.keep H.out) Hq2.out Her.out).mono ?_); rintro e wn ⟨rfl, hs⟩; rw [HFr.out]; replace H := Lib.hid (Stp.trans H.out hs); replace B0 := Lib.hid (B0.out.keep hs B0.out.lt); clear q0 q1 q2; obtain ⟨⟨q0, q1, q2⟩, -, -, -⟩ := tt_all B0.out; clear hs))
    go_ret
    exact ⟨rfl, H.out⟩
set_option maxRecDepth 100000 in
set_option maxHeartbeats 2000000 in
theorem fills_may (I : TapeI) (c : Int) (ls : List L) (m : Bool) (n : Nat) (hs : SmallT ⟨c, ls, m⟩) (hn : ls.length = n) (A : Option Addr) (k : Nat) (w : World) (ha : RdL w A k ls) (rs : List L) (q : Nat) (hq : rs.length = q) (B : Option Addr) (d : Nat) (hr : RdL w B d rs) (hq2 : q < 9223372036854775808) (her : ∀ r ∈ rs, r.length < 9223372036854775808) (hF : Rec.fewR ls = true) (hFr : Rec.fewR rs = true) (hM : mayT ⟨c, ls, m⟩ = false) :
    Calls Try.prog 4 #[tc c A n k m, .slice B q d] w fun e w' => e = .returned (.bool true) ∧ Stp w w' := by
  have HI := Lib.hid I
  have HS := Lib.hid hs
  have Ha := Lib.hid ha
  have Hn := Lib.hid hn
  have HL := Lib.hid hs.each
  have HN : Hid (n < 9223372036854775808) := Lib.hid (by rw [← hn]; exact hs.few)
  have H := Lib.hid (Stp.alloc (Stp.refl w) (.cells (tcs c A n k m) 24))
  have B0 := Lib.hid (Blk.new w 24 (tcs c A n k m))
  obtain ⟨⟨q0, q1, q2⟩, -, -, -⟩ := tt_all B0.out
  have b1 := hs.low
  have b2 := hs.high
  dsimp only at b1 b2
  have Hr := Lib.hid hr
  have Hq := Lib.hid hq
  have Hq2 := Lib.hid hq2
  have Her := Lib.hid her
  have HF := Lib.hid hF
  have HFr := Lib.hid hFr
  have HM := Lib.hid hM
  have HT := Lib.hid (few_of hs hF)
  clear hs hn ha hr hq hq2 her hF hFr hM
  go_enter Try.func4, Try.ntmps4
  go_wp2_with (first
    | (go_at_call 9; refine (awake_s HI.out _).mono ?_; rintro e wn ⟨rfl, hs⟩; replace H := Lib.hid (Stp.trans H.out hs); replace B0 := Lib.hid (B0.out.keep hs B0.out.lt); clear q0 q1 q2; obtain ⟨⟨q0, q1, q2⟩, -, -, -⟩ := tt_all B0.out; clear hs)
    | (go_at_call 10; (with_reducible refine (Rec.fewr_n ls n Hn.out _ _ _ (Ha.out.keep H.out) HN.out HL.out).mono ?_); rintro e wn ⟨rfl, hs⟩; rw [HF.out]; replace H := Lib.hid (Stp.trans H.out hs); replace B0 := Lib.hid (B0.out.keep hs B0.out.lt); clear q0 q1 q2; obtain ⟨⟨q0, q1, q2⟩, -, -, -⟩ := tt_all B0.out; clear hs)
    | (go_at_call 10; (with_reducible refine (Rec.fewr_n rs q Hq.out _ _ _ (Hr.out.keep H.out) Hq2.out Her.out).mono ?_); rintro e wn ⟨rfl, hs⟩; rw [HFr.out]; replace H := Lib.hid (Stp.trans H.out hs); replace B0 := Lib.hid (B0.out.keep hs B0.out.lt); clear q0 q1 q2; obtain ⟨⟨q0, q1, q2⟩, -, -, -⟩ := tt_all B0.out; clear hs)
    | (go_at_call 11; (with_reducible refine (HI.out.may c ls m n HT.out Hn.out _ HM.out _ _ _ (Ha.out.keep H.out)).mono ?_); rintro e wn ⟨rfl, hs⟩; replace H := Lib.hid (Stp.trans H.out hs); replace B0 := Lib.hid (B0.out.keep hs B0.out.lt); clear q0 q1 q2; obtain ⟨⟨q0, q1, q2⟩, -, -, -⟩ := tt_all B0.out; clear hs))
  go_ret
  exact ⟨rfl, H.out⟩
set_option maxRecDepth 100000 in
set_option maxHeartbeats 2000000 in
theorem fills_mark (I : TapeI) (c : Int) (ls : List L) (m : Bool) (n : Nat) (hs : SmallT ⟨c, ls, m⟩) (hn : ls.length = n) (A : Option Addr) (k : Nat) (w : World) (ha : RdL w A k ls) (rs : List L) (q : Nat) (hq : rs.length = q) (B : Option Addr) (d : Nat) (hr : RdL w B d rs) (hq2 : q < 9223372036854775808) (her : ∀ r ∈ rs, r.length < 9223372036854775808) (hF : Rec.fewR ls = true) (hFr : Rec.fewR rs = true) (hM : mayT ⟨c, ls, m⟩ = true) (hm : m = true) :
    Calls Try.prog 4 #[tc c A n k m, .slice B q d] w fun e w' => e = .returned (.bool true) ∧ Stp w w' := by
  have HI := Lib.hid I
  have HS := Lib.hid hs
  have Ha := Lib.hid ha
  have Hn := Lib.hid hn
  have HL := Lib.hid hs.each
  have HN : Hid (n < 9223372036854775808) := Lib.hid (by rw [← hn]; exact hs.few)
  have H := Lib.hid (Stp.alloc (Stp.refl w) (.cells (tcs c A n k m) 24))
  have B0 := Lib.hid (Blk.new w 24 (tcs c A n k m))
  obtain ⟨⟨q0, q1, q2⟩, -, -, -⟩ := tt_all B0.out
  have b1 := hs.low
  have b2 := hs.high
  dsimp only at b1 b2
  have Hr := Lib.hid hr
  have Hq := Lib.hid hq
  have Hq2 := Lib.hid hq2
  have Her := Lib.hid her
  have HF := Lib.hid hF
  have HFr := Lib.hid hFr
  have HM := Lib.hid hM
  have HT := Lib.hid (few_of hs hF)
  clear hs hn ha hr hq hq2 her hF hFr hM
  subst hm
  go_enter Try.func4, Try.ntmps4
  go_wp2_with (first
    | (go_at_call 9; refine (awake_s HI.out _).mono ?_; rintro e wn ⟨rfl, hs⟩; replace H := Lib.hid (Stp.trans H.out hs); replace B0 := Lib.hid (B0.out.keep hs B0.out.lt); clear q0 q1 q2; obtain ⟨⟨q0, q1, q2⟩, -, -, -⟩ := tt_all B0.out; clear hs)
    | (go_at_call 10; (with_reducible refine (Rec.fewr_n ls n Hn.out _ _ _ (Ha.out.keep H.out) HN.out HL.out).mono ?_); rintro e wn ⟨rfl, hs⟩; rw [HF.out]; replace H := Lib.hid (Stp.trans H.out hs); replace B0 := Lib.hid (B0.out.keep hs B0.out.lt); clear q0 q1 q2; obtain ⟨⟨q0, q1, q2⟩, -, -, -⟩ := tt_all B0.out; clear hs)
    | (go_at_call 10; (with_reducible refine (Rec.fewr_n rs q Hq.out _ _ _ (Hr.out.keep H.out) Hq2.out Her.out).mono ?_); rintro e wn ⟨rfl, hs⟩; rw [HFr.out]; replace H := Lib.hid (Stp.trans H.out hs); replace B0 := Lib.hid (B0.out.keep hs B0.out.lt); clear q0 q1 q2; obtain ⟨⟨q0, q1, q2⟩, -, -, -⟩ := tt_all B0.out; clear hs)
    | (go_at_call 11; (with_reducible refine (HI.out.may c ls true n HT.out Hn.out _ HM.out _ _ _ (Ha.out.keep H.out)).mono ?_); rintro e wn ⟨rfl, hs⟩; replace H := Lib.hid (Stp.trans H.out hs); replace B0 := Lib.hid (B0.out.keep hs B0.out.lt); clear q0 q1 q2; obtain ⟨⟨q0, q1, q2⟩, -, -, -⟩ := tt_all B0.out; clear hs))
  go_ret
  exact ⟨rfl, H.out⟩
set_option maxRecDepth 100000 in
set_option maxHeartbeats 4000000 in
theorem fills_0 (I : TapeI) (c : Int) (ls : List L) (m : Bool) (n : Nat) (hs : SmallT ⟨c, ls, m⟩) (hn : ls.length = n) (A : Option Addr) (k : Nat) (w : World) (ha : RdL w A k ls) (rs : List L) (q : Nat) (hq : rs.length = q) (B : Option Addr) (d : Nat) (hr : RdL w B d rs) (hq2 : q < 9223372036854775808) (her : ∀ r ∈ rs, r.length < 9223372036854775808) (hF : Rec.fewR ls = true) (hFr : Rec.fewR rs = true) (hm : m = false) (hM : mayT ⟨c, ls, m⟩ = true) (j : Nat) (hj : j ≤ q) (hX : fillV ⟨c, ls, m⟩ rs = (⟨c, ls ++ rs.take j, false⟩, j, 0)) (hjq : j = q) :
    Calls Try.prog 4 #[tc c A n k m, .slice B q d] w fun e w' => e = .returned (.bool true) ∧ Stp w w' := by
  have HI := Lib.hid I
  have HS := Lib.hid hs
  have Ha := Lib.hid ha
  have Hn := Lib.hid hn
  have HL := Lib.hid hs.each
  have HN : Hid (n < 9223372036854775808) := Lib.hid (by rw [← hn]; exact hs.few)
  have H := Lib.hid (Stp.alloc (Stp.refl w) (.cells (tcs c A n k m) 24))
  have B0 := Lib.hid (Blk.new w 24 (tcs c A n k m))
  obtain ⟨⟨q0, q1, q2⟩, -, -, -⟩ := tt_all B0.out
  have b1 := hs.low
  have b2 := hs.high
  dsimp only at b1 b2
  have Hr := Lib.hid hr
  have Hq := Lib.hid hq
  have Hq2 := Lib.hid hq2
  have Her := Lib.hid her
  have HF := Lib.hid hF
  have HFr := Lib.hid hFr
  have HM := Lib.hid hM
  have HT := Lib.hid (few_of hs hF)
  subst hm
  obtain ⟨x1, x2⟩ := fewR_n hF
  obtain ⟨y1, y2⟩ := fewR_n hFr
  have hback := fillV_back rs hM rfl
  rw [hX] at hback
  dsimp only at hback
  rw [hn] at hback
  have Hl1 : (ls ++ rs.take j).length = n + j := by rw [List.length_append, List.length_take, hn, hq]; omega
  have ht := few_app hs hF (rs := rs.take j) (by rw [List.length_take]; omega) (fun r hr => y2 r (List.mem_of_mem_take hr)) false
  have Hdr : Hid ((ls ++ rs.take j).drop n = rs.take j) := Lib.hid (by rw [← hn]; exact List.drop_left)
  obtain ⟨ls1, hls1⟩ : ∃ x, ls ++ rs.take j = x := ⟨_, rfl⟩
  rw [hls1] at hX hback Hl1 ht Hdr
  obtain ⟨n1, hn1⟩ : ∃ x, ls1.length = x := ⟨_, rfl⟩
  have Hn1 := Lib.hid hn1
  rw [hn1] at Hl1
  have HT1 := Lib.hid ht
  have HX := Lib.hid hX
  have HC := Lib.hid hback
  have Hnn : Hid (n ≤ n1) := Lib.hid (by omega)
  have Hq3 : Hid (q ≤ 1000) := Lib.hid (by omega)
  have Her2 : Hid (∀ r ∈ rs, r.length ≤ 100000) := Lib.hid (fun r hr => Nat.le_trans (y2 r hr) (by omega))
  have Hn0 : Hid (-9223372036854775808 ≤ (n : Int)) := Lib.hid (by omega)
  have Hn9 : Hid ((n : Int) < 9223372036854775808) := Lib.hid (by omega)
  have Hd2 : Hid ((rs.take j).length = j) := Lib.hid (by rw [List.length_take, hq]; omega)
  have Hd1 : Hid ((rs.take j).length = n1 - n) := Lib.hid (by rw [Hd2.out]; omega)
  have Hd3 : Hid (n1 - n < 9223372036854775808) := Lib.hid (by omega)
  have hjd : j ≤ d := by have h := hr.length_le; omega
  obtain ⟨Bs, hsl2, hsr2⟩ := slice_to_any B q d j hjd
  have Hsr2 := Lib.hid hsr2
  have g2 : decide ((j : Int) < 0) = false := decide_eq_false (by omega)
  have g3 : decide ((q : Int) < (j : Int)) = false := decide_eq_false (by omega)
  have g3' : ¬ q < j := by omega
  have g4 : ((n1 : Int) != (n : Int) + (j : Int)) = false := by rw [Hl1]; simp
  have hn60 : n ≤ 60 := by omega
  have hj60 : j ≤ 60 := by omega
  have g5 : ((j : Int) == (q : Int)) = true := by rw [hjq]; simp
  clear hs hn ha hr hq hq2 her hF hFr hM hX hback Hl1 ht hls1 hn1 hj hjd hsr2 hjq x1 x2 y1 y2
  go_enter Try.func4, Try.ntmps4
  go_upto_region 9 with (first
    | (go_at_call 9; refine (awake_s HI.out _).mono ?_; rintro e wn ⟨rfl, hs⟩; replace H := Lib.hid (Stp.trans H.out hs); replace B0 := Lib.hid (B0.out.keep hs B0.out.lt); clear q0 q1 q2; obtain ⟨⟨q0, q1, q2⟩, -, -, -⟩ := tt_all B0.out; clear hs)
    | (go_at_call 10; (with_reducible refine (Rec.fewr_n ls n Hn.out _ _ _ (Ha.out.keep H.out) HN.out HL.out).mono ?_); rintro e wn ⟨rfl, hs⟩; rw [HF.out]; replace H := Lib.hid (Stp.trans H.out hs); replace B0 := Lib.hid (B0.out.keep hs B0.out.lt); clear q0 q1 q2; obtain ⟨⟨q0, q1, q2⟩, -, -, -⟩ := tt_all B0.out; clear hs)
    | (go_at_call 10; (with_reducible refine (Rec.fewr_n rs q Hq.out _ _ _ (Hr.out.keep H.out) Hq2.out Her.out).mono ?_); rintro e wn ⟨rfl, hs⟩; rw [HFr.out]; replace H := Lib.hid (Stp.trans H.out hs); replace B0 := Lib.hid (B0.out.keep hs B0.out.lt); clear q0 q1 q2; obtain ⟨⟨q0, q1, q2⟩, -, -, -⟩ := tt_all B0.out; clear hs)
    | (go_at_call 11; (with_reducible refine (HI.out.may c ls false n HT.out Hn.out _ HM.out _ _ _ (Ha.out.keep H.out)).mono ?_); rintro e wn ⟨rfl, hs⟩; replace H := Lib.hid (Stp.trans H.out hs); replace B0 := Lib.hid (B0.out.keep hs B0.out.lt); clear q0 q1 q2; obtain ⟨⟨q0, q1, q2⟩, -, -, -⟩ := tt_all B0.out; clear hs)
    | (go_at_call 15; (with_reducible refine (HI.out.fill c ls false n HT.out Hn.out rs q Hq.out Hq3.out Her2.out c ls1 false n1 j 0 HX.out Hn1.out 0 rfl _ _ _ _ _ (Ha.out.keep H.out) (Hr.out.keep H.out)).mono ?_); rintro e w5 ⟨Aw5, kw5, rfl, hr, hs, -⟩; have hsA := Stp.alloc hs (.cells (tcs c Aw5 n1 kw5 false) 24); replace H := Lib.hid (Stp.trans H.out hsA); replace B0 := Lib.hid (B0.out.keep hsA B0.out.lt); have B1 := Lib.hid (Blk.new w5 24 (tcs c Aw5 n1 kw5 false)); have RB1 := Lib.hid (hr.keep (Stp.alloc (Stp.refl w5) (.cells (tcs c Aw5 n1 kw5 false) 24))); obtain ⟨As, hsl1, hsr1⟩ := slice_from_any Aw5 n1 kw5 n Hnn.out (by have h := RB1.out.length_le; rw [Hn1.out] at h; exact h); have Hsr1 := Lib.hid hsr1; clear q0 q1 q2; obtain ⟨⟨q0, q1, q2⟩, -, -, -⟩ := tt_all B0.out; obtain ⟨⟨r0, r1, r2⟩, -, -, -⟩ := tt_all B1.out; clear hr hs hsA hsr1))
  obtain ⟨W, hW⟩ : ∃ z, w5.alloc (.cells (tcs c Aw5 n1 kw5 false) 24) = z := ⟨_, rfl⟩
  rw [hW] at H B0 B1 RB1 ⊢
  clear hW q0 q1 q2 r0 r1 r2
  obtain ⟨⟨q0, q1, q2⟩, -, -, -⟩ := tt_all (Blk.drew B0.out)
  obtain ⟨⟨r0, r1, r2⟩, -, -, -⟩ := tt_all (Blk.drew B1.out)
  have hst : Stp W W.drew := Stp.drewN (Stp.refl W) 1
  have Hrow1 : Hid (RdL W.drew As (kw5 - n) (rs.take j)) := Lib.hid (by have h := (Hsr1.out W ls1 Hn1.out RB1.out).keep hst; rw [Hdr.out] at h; exact h)
  have Hrow2 : Hid (RdL W.drew Bs d (rs.take j)) := Lib.hid ((Hsr2.out W rs (Hr.out.keep H.out)).keep hst)
  replace H := Lib.hid (Stp.trans H.out hst)
  replace B0 := Lib.hid (Blk.drew B0.out)
  replace B1 := Lib.hid (Blk.drew B1.out)
  replace RB1 := Lib.hid (RB1.out.keep hst)
  clear hst
  go_region_law (go_simp; go_at_call 16; (with_reducible refine (rsame_p (rs.take j) (n1 - n) j Hd1.out Hd2.out _ _ _ _ _ (Hrow1.out) (Hrow2.out) Hd3.out).mono ?_); rintro e wn ⟨rfl, hs⟩; replace H := Lib.hid (Stp.trans H.out hs); replace B0 := Lib.hid (B0.out.keep hs B0.out.lt); replace B1 := Lib.hid (B1.out.keep hs B1.out.lt); replace RB1 := Lib.hid (RB1.out.keep hs); clear q0 q1 q2; obtain ⟨⟨q0, q1, q2⟩, -, -, -⟩ := tt_all B0.out; clear r0 r1 r2; obtain ⟨⟨r0, r1, r2⟩, -, -, -⟩ := tt_all B1.out; clear hs)
  all_goals
    go_wp2_with (first
      | (go_at_call 17; (with_reducible refine (HI.out.cut c ls1 false n1 HT1.out Hn1.out (n : Int) Hn0.out Hn9.out c ls false n 0 HC.out Hn.out 0 rfl _ _ _ RB1.out).mono ?_); rintro e w7 ⟨Aw7, kw7, rfl, hr, hs, -⟩; have hsA := Stp.alloc hs (.cells (tcs c Aw7 n kw7 false) 24); replace H := Lib.hid (Stp.trans H.out hsA); replace B0 := Lib.hid (B0.out.keep hsA B0.out.lt); replace B1 := Lib.hid (B1.out.keep hsA B1.out.lt); replace RB1 := Lib.hid (RB1.out.keep hsA); have B2 := Lib.hid (Blk.new w7 24 (tcs c Aw7 n kw7 false)); have RB2 := Lib.hid (hr.keep (Stp.alloc (Stp.refl w7) (.cells (tcs c Aw7 n kw7 false) 24))); clear q0 q1 q2; obtain ⟨⟨q0, q1, q2⟩, -, -, -⟩ := tt_all B0.out; clear r0 r1 r2; obtain ⟨⟨r0, r1, r2⟩, -, -, -⟩ := tt_all B1.out; obtain ⟨⟨u0, u1, u2⟩, -, -, -⟩ := tt_all B2.out; clear hr hs hsA)
      | (go_at_call 13; (with_reducible refine (HI.out.same c ls false n HT.out Hn.out c ls false n HT.out Hn.out true (by simp) _ _ _ _ _ RB2.out (Ha.out.keep H.out)).mono ?_); rintro e wn ⟨rfl, hs⟩; replace H := Lib.hid (Stp.trans H.out hs); replace B0 := Lib.hid (B0.out.keep hs B0.out.lt); replace B1 := Lib.hid (B1.out.keep hs B1.out.lt); replace B2 := Lib.hid (B2.out.keep hs B2.out.lt); replace RB1 := Lib.hid (RB1.out.keep hs); replace RB2 := Lib.hid (RB2.out.keep hs); clear q0 q1 q2; obtain ⟨⟨q0, q1, q2⟩, -, -, -⟩ := tt_all B0.out; clear r0 r1 r2; obtain ⟨⟨r0, r1, r2⟩, -, -, -⟩ := tt_all B1.out; clear u0 u1 u2; obtain ⟨⟨u0, u1, u2⟩, -, -, -⟩ := tt_all B2.out; clear hs))
    go_ret
    exact ⟨rfl, H.out⟩
set_option maxRecDepth 100000 in
set_option maxHeartbeats 4000000 in
theorem fills_1 (I : TapeI) (c : Int) (ls : List L) (m : Bool) (n : Nat) (hs : SmallT ⟨c, ls, m⟩) (hn : ls.length = n) (A : Option Addr) (k : Nat) (w : World) (ha : RdL w A k ls) (rs : List L) (q : Nat) (hq : rs.length = q) (B : Option Addr) (d : Nat) (hr : RdL w B d rs) (hq2 : q < 9223372036854775808) (her : ∀ r ∈ rs, r.length < 9223372036854775808) (hF : Rec.fewR ls = true) (hFr : Rec.fewR rs = true) (hm : m = false) (hM : mayT ⟨c, ls, m⟩ = true) (j : Nat) (hj : j ≤ q) (hX : fillV ⟨c, ls, m⟩ rs = (⟨c, ls ++ rs.take j, false⟩, j, 1)) (hjq : j ≠ q) :
    Calls Try.prog 4 #[tc c A n k m, .slice B q d] w fun e w' => e = .returned (.bool true) ∧ Stp w w' := by
  have HI := Lib.hid I
  have HS := Lib.hid hs
  have Ha := Lib.hid ha
  have Hn := Lib.hid hn
  have HL := Lib.hid hs.each
  have HN : Hid (n < 9223372036854775808) := Lib.hid (by rw [← hn]; exact hs.few)
  have H := Lib.hid (Stp.alloc (Stp.refl w) (.cells (tcs c A n k m) 24))
  have B0 := Lib.hid (Blk.new w 24 (tcs c A n k m))
  obtain ⟨⟨q0, q1, q2⟩, -, -, -⟩ := tt_all B0.out
  have b1 := hs.low
  have b2 := hs.high
  dsimp only at b1 b2
  have Hr := Lib.hid hr
  have Hq := Lib.hid hq
  have Hq2 := Lib.hid hq2
  have Her := Lib.hid her
  have HF := Lib.hid hF
  have HFr := Lib.hid hFr
  have HM := Lib.hid hM
  have HT := Lib.hid (few_of hs hF)
  subst hm
  obtain ⟨x1, x2⟩ := fewR_n hF
  obtain ⟨y1, y2⟩ := fewR_n hFr
  have hback := fillV_back rs hM rfl
  rw [hX] at hback
  dsimp only at hback
  rw [hn] at hback
  have Hl1 : (ls ++ rs.take j).length = n + j := by rw [List.length_append, List.length_take, hn, hq]; omega
  have ht := few_app hs hF (rs := rs.take j) (by rw [List.length_take]; omega) (fun r hr => y2 r (List.mem_of_mem_take hr)) false
  have Hdr : Hid ((ls ++ rs.take j).drop n = rs.take j) := Lib.hid (by rw [← hn]; exact List.drop_left)
  obtain ⟨ls1, hls1⟩ : ∃ x, ls ++ rs.take j = x := ⟨_, rfl⟩
  rw [hls1] at hX hback Hl1 ht Hdr
  obtain ⟨n1, hn1⟩ : ∃ x, ls1.length = x := ⟨_, rfl⟩
  have Hn1 := Lib.hid hn1
  rw [hn1] at Hl1
  have HT1 := Lib.hid ht
  have HX := Lib.hid hX
  have HC := Lib.hid hback
  have Hnn : Hid (n ≤ n1) := Lib.hid (by omega)
  have Hq3 : Hid (q ≤ 1000) := Lib.hid (by omega)
  have Her2 : Hid (∀ r ∈ rs, r.length ≤ 100000) := Lib.hid (fun r hr => Nat.le_trans (y2 r hr) (by omega))
  have Hn0 : Hid (-9223372036854775808 ≤ (n : Int)) := Lib.hid (by omega)
  have Hn9 : Hid ((n : Int) < 9223372036854775808) := Lib.hid (by omega)
  have Hd2 : Hid ((rs.take j).length = j) := Lib.hid (by rw [List.length_take, hq]; omega)
  have Hd1 : Hid ((rs.take j).length = n1 - n) := Lib.hid (by rw [Hd2.out]; omega)
  have Hd3 : Hid (n1 - n < 9223372036854775808) := Lib.hid (by omega)
  have hjd : j ≤ d := by have h := hr.length_le; omega
  obtain ⟨Bs, hsl2, hsr2⟩ := slice_to_any B q d j hjd
  have Hsr2 := Lib.hid hsr2
  have g2 : decide ((j : Int) < 0) = false := decide_eq_false (by omega)
  have g3 : decide ((q : Int) < (j : Int)) = false := decide_eq_false (by omega)
  have g3' : ¬ q < j := by omega
  have g4 : ((n1 : Int) != (n : Int) + (j : Int)) = false := by rw [Hl1]; simp
  have hn60 : n ≤ 60 := by omega
  have hj60 : j ≤ 60 := by omega
  have g5 : ((j : Int) == (q : Int)) = false := by rw [beq_eq_false_iff_ne]; omega
  clear hs hn ha hr hq hq2 her hF hFr hM hX hback Hl1 ht hls1 hn1 hj hjd hsr2 hjq x1 x2 y1 y2
  go_enter Try.func4, Try.ntmps4
  go_upto_region 9 with (first
    | (go_at_call 9; refine (awake_s HI.out _).mono ?_; rintro e wn ⟨rfl, hs⟩; replace H := Lib.hid (Stp.trans H.out hs); replace B0 := Lib.hid (B0.out.keep hs B0.out.lt); clear q0 q1 q2; obtain ⟨⟨q0, q1, q2⟩, -, -, -⟩ := tt_all B0.out; clear hs)
    | (go_at_call 10; (with_reducible refine (Rec.fewr_n ls n Hn.out _ _ _ (Ha.out.keep H.out) HN.out HL.out).mono ?_); rintro e wn ⟨rfl, hs⟩; rw [HF.out]; replace H := Lib.hid (Stp.trans H.out hs); replace B0 := Lib.hid (B0.out.keep hs B0.out.lt); clear q0 q1 q2; obtain ⟨⟨q0, q1, q2⟩, -, -, -⟩ := tt_all B0.out; clear hs)
    | (go_at_call 10; (with_reducible refine (Rec.fewr_n rs q Hq.out _ _ _ (Hr.out.keep H.out) Hq2.out Her.out).mono ?_); rintro e wn ⟨rfl, hs⟩; rw [HFr.out]; replace H := Lib.hid (Stp.trans H.out hs); replace B0 := Lib.hid (B0.out.keep hs B0.out.lt); clear q0 q1 q2; obtain ⟨⟨q0, q1, q2⟩, -, -, -⟩ := tt_all B0.out; clear hs)
    | (go_at_call 11; (with_reducible refine (HI.out.may c ls false n HT.out Hn.out _ HM.out _ _ _ (Ha.out.keep H.out)).mono ?_); rintro e wn ⟨rfl, hs⟩; replace H := Lib.hid (Stp.trans H.out hs); replace B0 := Lib.hid (B0.out.keep hs B0.out.lt); clear q0 q1 q2; obtain ⟨⟨q0, q1, q2⟩, -, -, -⟩ := tt_all B0.out; clear hs)
    | (go_at_call 15; (with_reducible refine (HI.out.fill c ls false n HT.out Hn.out rs q Hq.out Hq3.out Her2.out c ls1 false n1 j 1 HX.out Hn1.out 1 rfl _ _ _ _ _ (Ha.out.keep H.out) (Hr.out.keep H.out)).mono ?_); rintro e w5 ⟨Aw5, kw5, rfl, hr, hs, -⟩; have hsA := Stp.alloc hs (.cells (tcs c Aw5 n1 kw5 false) 24); replace H := Lib.hid (Stp.trans H.out hsA); replace B0 := Lib.hid (B0.out.keep hsA B0.out.lt); have B1 := Lib.hid (Blk.new w5 24 (tcs c Aw5 n1 kw5 false)); have RB1 := Lib.hid (hr.keep (Stp.alloc (Stp.refl w5) (.cells (tcs c Aw5 n1 kw5 false) 24))); obtain ⟨As, hsl1, hsr1⟩ := slice_from_any Aw5 n1 kw5 n Hnn.out (by have h := RB1.out.length_le; rw [Hn1.out] at h; exact h); have Hsr1 := Lib.hid hsr1; clear q0 q1 q2; obtain ⟨⟨q0, q1, q2⟩, -, -, -⟩ := tt_all B0.out; obtain ⟨⟨r0, r1, r2⟩, -, -, -⟩ := tt_all B1.out; clear hr hs hsA hsr1))
  obtain ⟨W, hW⟩ : ∃ z, w5.alloc (.cells (tcs c Aw5 n1 kw5 false) 24) = z := ⟨_, rfl⟩
  rw [hW] at H B0 B1 RB1 ⊢
  clear hW q0 q1 q2 r0 r1 r2
  obtain ⟨⟨q0, q1, q2⟩, -, -, -⟩ := tt_all (Blk.drew B0.out)
  obtain ⟨⟨r0, r1, r2⟩, -, -, -⟩ := tt_all (Blk.drew B1.out)
  have hst : Stp W W.drew := Stp.drewN (Stp.refl W) 1
  have Hrow1 : Hid (RdL W.drew As (kw5 - n) (rs.take j)) := Lib.hid (by have h := (Hsr1.out W ls1 Hn1.out RB1.out).keep hst; rw [Hdr.out] at h; exact h)
  have Hrow2 : Hid (RdL W.drew Bs d (rs.take j)) := Lib.hid ((Hsr2.out W rs (Hr.out.keep H.out)).keep hst)
  replace H := Lib.hid (Stp.trans H.out hst)
  replace B0 := Lib.hid (Blk.drew B0.out)
  replace B1 := Lib.hid (Blk.drew B1.out)
  replace RB1 := Lib.hid (RB1.out.keep hst)
  clear hst
  go_region_law (go_simp; go_at_call 16; (with_reducible refine (rsame_p (rs.take j) (n1 - n) j Hd1.out Hd2.out _ _ _ _ _ (Hrow1.out) (Hrow2.out) Hd3.out).mono ?_); rintro e wn ⟨rfl, hs⟩; replace H := Lib.hid (Stp.trans H.out hs); replace B0 := Lib.hid (B0.out.keep hs B0.out.lt); replace B1 := Lib.hid (B1.out.keep hs B1.out.lt); replace RB1 := Lib.hid (RB1.out.keep hs); clear q0 q1 q2; obtain ⟨⟨q0, q1, q2⟩, -, -, -⟩ := tt_all B0.out; clear r0 r1 r2; obtain ⟨⟨r0, r1, r2⟩, -, -, -⟩ := tt_all B1.out; clear hs)
  all_goals
    go_wp2_with (first
      | (go_at_call 17; (with_reducible refine (HI.out.cut c ls1 false n1 HT1.out Hn1.out (n : Int) Hn0.out Hn9.out c ls false n 0 HC.out Hn.out 0 rfl _ _ _ RB1.out).mono ?_); rintro e w7 ⟨Aw7, kw7, rfl, hr, hs, -⟩; have hsA := Stp.alloc hs (.cells (tcs c Aw7 n kw7 false) 24); replace H := Lib.hid (Stp.trans H.out hsA); replace B0 := Lib.hid (B0.out.keep hsA B0.out.lt); replace B1 := Lib.hid (B1.out.keep hsA B1.out.lt); replace RB1 := Lib.hid (RB1.out.keep hsA); have B2 := Lib.hid (Blk.new w7 24 (tcs c Aw7 n kw7 false)); have RB2 := Lib.hid (hr.keep (Stp.alloc (Stp.refl w7) (.cells (tcs c Aw7 n kw7 false) 24))); clear q0 q1 q2; obtain ⟨⟨q0, q1, q2⟩, -, -, -⟩ := tt_all B0.out; clear r0 r1 r2; obtain ⟨⟨r0, r1, r2⟩, -, -, -⟩ := tt_all B1.out; obtain ⟨⟨u0, u1, u2⟩, -, -, -⟩ := tt_all B2.out; clear hr hs hsA)
      | (go_at_call 13; (with_reducible refine (HI.out.same c ls false n HT.out Hn.out c ls false n HT.out Hn.out true (by simp) _ _ _ _ _ RB2.out (Ha.out.keep H.out)).mono ?_); rintro e wn ⟨rfl, hs⟩; replace H := Lib.hid (Stp.trans H.out hs); replace B0 := Lib.hid (B0.out.keep hs B0.out.lt); replace B1 := Lib.hid (B1.out.keep hs B1.out.lt); replace B2 := Lib.hid (B2.out.keep hs B2.out.lt); replace RB1 := Lib.hid (RB1.out.keep hs); replace RB2 := Lib.hid (RB2.out.keep hs); clear q0 q1 q2; obtain ⟨⟨q0, q1, q2⟩, -, -, -⟩ := tt_all B0.out; clear r0 r1 r2; obtain ⟨⟨r0, r1, r2⟩, -, -, -⟩ := tt_all B1.out; clear u0 u1 u2; obtain ⟨⟨u0, u1, u2⟩, -, -, -⟩ := tt_all B2.out; clear hs))
    go_ret
    exact ⟨rfl, H.out⟩
set_option maxRecDepth 100000 in
set_option maxHeartbeats 4000000 in
theorem fills_8 (I : TapeI) (c : Int) (ls : List L) (m : Bool) (n : Nat) (hs : SmallT ⟨c, ls, m⟩) (hn : ls.length = n) (A : Option Addr) (k : Nat) (w : World) (ha : RdL w A k ls) (rs : List L) (q : Nat) (hq : rs.length = q) (B : Option Addr) (d : Nat) (hr : RdL w B d rs) (hq2 : q < 9223372036854775808) (her : ∀ r ∈ rs, r.length < 9223372036854775808) (hF : Rec.fewR ls = true) (hFr : Rec.fewR rs = true) (hm : m = false) (hM : mayT ⟨c, ls, m⟩ = true) (j : Nat) (hj : j ≤ q) (hX : fillV ⟨c, ls, m⟩ rs = (⟨c, ls ++ rs.take j, false⟩, j, 8)) (hjq : j ≠ q) (h8 : ((ls ++ rs.take j).length : Int) = c) :
    Calls Try.prog 4 #[tc c A n k m, .slice B q d] w fun e w' => e = .returned (.bool true) ∧ Stp w w' := by
  have HI := Lib.hid I
  have HS := Lib.hid hs
  have Ha := Lib.hid ha
  have Hn := Lib.hid hn
  have HL := Lib.hid hs.each
  have HN : Hid (n < 9223372036854775808) := Lib.hid (by rw [← hn]; exact hs.few)
  have H := Lib.hid (Stp.alloc (Stp.refl w) (.cells (tcs c A n k m) 24))
  have B0 := Lib.hid (Blk.new w 24 (tcs c A n k m))
  obtain ⟨⟨q0, q1, q2⟩, -, -, -⟩ := tt_all B0.out
  have b1 := hs.low
  have b2 := hs.high
  dsimp only at b1 b2
  have Hr := Lib.hid hr
  have Hq := Lib.hid hq
  have Hq2 := Lib.hid hq2
  have Her := Lib.hid her
  have HF := Lib.hid hF
  have HFr := Lib.hid hFr
  have HM := Lib.hid hM
  have HT := Lib.hid (few_of hs hF)
  subst hm
  obtain ⟨x1, x2⟩ := fewR_n hF
  obtain ⟨y1, y2⟩ := fewR_n hFr
  have hback := fillV_back rs hM rfl
  rw [hX] at hback
  dsimp only at hback
  rw [hn] at hback
  have Hl1 : (ls ++ rs.take j).length = n + j := by rw [List.length_append, List.length_take, hn, hq]; omega
  have ht := few_app hs hF (rs := rs.take j) (by rw [List.length_take]; omega) (fun r hr => y2 r (List.mem_of_mem_take hr)) false
  have Hdr : Hid ((ls ++ rs.take j).drop n = rs.take j) := Lib.hid (by rw [← hn]; exact List.drop_left)
  obtain ⟨ls1, hls1⟩ : ∃ x, ls ++ rs.take j = x := ⟨_, rfl⟩
  rw [hls1] at hX hback Hl1 ht Hdr
  obtain ⟨n1, hn1⟩ : ∃ x, ls1.length = x := ⟨_, rfl⟩
  have Hn1 := Lib.hid hn1
  rw [hn1] at Hl1
  have HT1 := Lib.hid ht
  have HX := Lib.hid hX
  have HC := Lib.hid hback
  have Hnn : Hid (n ≤ n1) := Lib.hid (by omega)
  have Hq3 : Hid (q ≤ 1000) := Lib.hid (by omega)
  have Her2 : Hid (∀ r ∈ rs, r.length ≤ 100000) := Lib.hid (fun r hr => Nat.le_trans (y2 r hr) (by omega))
  have Hn0 : Hid (-9223372036854775808 ≤ (n : Int)) := Lib.hid (by omega)
  have Hn9 : Hid ((n : Int) < 9223372036854775808) := Lib.hid (by omega)
  have Hd2 : Hid ((rs.take j).length = j) := Lib.hid (by rw [List.length_take, hq]; omega)
  have Hd1 : Hid ((rs.take j).length = n1 - n) := Lib.hid (by rw [Hd2.out]; omega)
  have Hd3 : Hid (n1 - n < 9223372036854775808) := Lib.hid (by omega)
  have hjd : j ≤ d := by have h := hr.length_le; omega
  obtain ⟨Bs, hsl2, hsr2⟩ := slice_to_any B q d j hjd
  have Hsr2 := Lib.hid hsr2
  have g2 : decide ((j : Int) < 0) = false := decide_eq_false (by omega)
  have g3 : decide ((q : Int) < (j : Int)) = false := decide_eq_false (by omega)
  have g3' : ¬ q < j := by omega
  have g4 : ((n1 : Int) != (n : Int) + (j : Int)) = false := by rw [Hl1]; simp
  have hn60 : n ≤ 60 := by omega
  have hj60 : j ≤ 60 := by omega
  have g5 : ((j : Int) == (q : Int)) = false := by rw [beq_eq_false_iff_ne]; omega
  have g6 : ((n1 : Int) != c) = false := by
    rw [hls1, hn1] at h8
    rw [h8]
    simp
  clear hs hn ha hr hq hq2 her hF hFr hM hX hback Hl1 ht hls1 hn1 hj hjd hsr2 hjq x1 x2 y1 y2 h8
  go_enter Try.func4, Try.ntmps4
  go_upto_region 9 with (first
    | (go_at_call 9; refine (awake_s HI.out _).mono ?_; rintro e wn ⟨rfl, hs⟩; replace H := Lib.hid (Stp.trans H.out hs); replace B0 := Lib.hid (B0.out.keep hs B0.out.lt); clear q0 q1 q2; obtain ⟨⟨q0, q1, q2⟩, -, -, -⟩ := tt_all B0.out; clear hs)
    | (go_at_call 10; (with_reducible refine (Rec.fewr_n ls n Hn.out _ _ _ (Ha.out.keep H.out) HN.out HL.out).mono ?_); rintro e wn ⟨rfl, hs⟩; rw [HF.out]; replace H := Lib.hid (Stp.trans H.out hs); replace B0 := Lib.hid (B0.out.keep hs B0.out.lt); clear q0 q1 q2; obtain ⟨⟨q0, q1, q2⟩, -, -, -⟩ := tt_all B0.out; clear hs)
    | (go_at_call 10; (with_reducible refine (Rec.fewr_n rs q Hq.out _ _ _ (Hr.out.keep H.out) Hq2.out Her.out).mono ?_); rintro e wn ⟨rfl, hs⟩; rw [HFr.out]; replace H := Lib.hid (Stp.trans H.out hs); replace B0 := Lib.hid (B0.out.keep hs B0.out.lt); clear q0 q1 q2; obtain ⟨⟨q0, q1, q2⟩, -, -, -⟩ := tt_all B0.out; clear hs)
    | (go_at_call 11; (with_reducible refine (HI.out.may c ls false n HT.out Hn.out _ HM.out _ _ _ (Ha.out.keep H.out)).mono ?_); rintro e wn ⟨rfl, hs⟩; replace H := Lib.hid (Stp.trans H.out hs); replace B0 := Lib.hid (B0.out.keep hs B0.out.lt); clear q0 q1 q2; obtain ⟨⟨q0, q1, q2⟩, -, -, -⟩ := tt_all B0.out; clear hs)
    | (go_at_call 15; (with_reducible refine (HI.out.fill c ls false n HT.out Hn.out rs q Hq.out Hq3.out Her2.out c ls1 false n1 j 8 HX.out Hn1.out 8 rfl _ _ _ _ _ (Ha.out.keep H.out) (Hr.out.keep H.out)).mono ?_); rintro e w5 ⟨Aw5, kw5, rfl, hr, hs, -⟩; have hsA := Stp.alloc hs (.cells (tcs c Aw5 n1 kw5 false) 24); replace H := Lib.hid (Stp.trans H.out hsA); replace B0 := Lib.hid (B0.out.keep hsA B0.out.lt); have B1 := Lib.hid (Blk.new w5 24 (tcs c Aw5 n1 kw5 false)); have RB1 := Lib.hid (hr.keep (Stp.alloc (Stp.refl w5) (.cells (tcs c Aw5 n1 kw5 false) 24))); obtain ⟨As, hsl1, hsr1⟩ := slice_from_any Aw5 n1 kw5 n Hnn.out (by have h := RB1.out.length_le; rw [Hn1.out] at h; exact h); have Hsr1 := Lib.hid hsr1; clear q0 q1 q2; obtain ⟨⟨q0, q1, q2⟩, -, -, -⟩ := tt_all B0.out; obtain ⟨⟨r0, r1, r2⟩, -, -, -⟩ := tt_all B1.out; clear hr hs hsA hsr1))
  obtain ⟨W, hW⟩ : ∃ z, w5.alloc (.cells (tcs c Aw5 n1 kw5 false) 24) = z := ⟨_, rfl⟩
  rw [hW] at H B0 B1 RB1 ⊢
  clear hW q0 q1 q2 r0 r1 r2
  obtain ⟨⟨q0, q1, q2⟩, -, -, -⟩ := tt_all (Blk.drew B0.out)
  obtain ⟨⟨r0, r1, r2⟩, -, -, -⟩ := tt_all (Blk.drew B1.out)
  have hst : Stp W W.drew := Stp.drewN (Stp.refl W) 1
  have Hrow1 : Hid (RdL W.drew As (kw5 - n) (rs.take j)) := Lib.hid (by have h := (Hsr1.out W ls1 Hn1.out RB1.out).keep hst; rw [Hdr.out] at h; exact h)
  have Hrow2 : Hid (RdL W.drew Bs d (rs.take j)) := Lib.hid ((Hsr2.out W rs (Hr.out.keep H.out)).keep hst)
  replace H := Lib.hid (Stp.trans H.out hst)
  replace B0 := Lib.hid (Blk.drew B0.out)
  replace B1 := Lib.hid (Blk.drew B1.out)
  replace RB1 := Lib.hid (RB1.out.keep hst)
  clear hst
  go_region_law (go_simp; go_at_call 16; (with_reducible refine (rsame_p (rs.take j) (n1 - n) j Hd1.out Hd2.out _ _ _ _ _ (Hrow1.out) (Hrow2.out) Hd3.out).mono ?_); rintro e wn ⟨rfl, hs⟩; replace H := Lib.hid (Stp.trans H.out hs); replace B0 := Lib.hid (B0.out.keep hs B0.out.lt); replace B1 := Lib.hid (B1.out.keep hs B1.out.lt); replace RB1 := Lib.hid (RB1.out.keep hs); clear q0 q1 q2; obtain ⟨⟨q0, q1, q2⟩, -, -, -⟩ := tt_all B0.out; clear r0 r1 r2; obtain ⟨⟨r0, r1, r2⟩, -, -, -⟩ := tt_all B1.out; clear hs)
  all_goals
    go_wp2_with (first
      | (go_at_call 17; (with_reducible refine (HI.out.cut c ls1 false n1 HT1.out Hn1.out (n : Int) Hn0.out Hn9.out c ls false n 0 HC.out Hn.out 0 rfl _ _ _ RB1.out).mono ?_); rintro e w7 ⟨Aw7, kw7, rfl, hr, hs, -⟩; have hsA := Stp.alloc hs (.cells (tcs c Aw7 n kw7 false) 24); replace H := Lib.hid (Stp.trans H.out hsA); replace B0 := Lib.hid (B0.out.keep hsA B0.out.lt); replace B1 := Lib.hid (B1.out.keep hsA B1.out.lt); replace RB1 := Lib.hid (RB1.out.keep hsA); have B2 := Lib.hid (Blk.new w7 24 (tcs c Aw7 n kw7 false)); have RB2 := Lib.hid (hr.keep (Stp.alloc (Stp.refl w7) (.cells (tcs c Aw7 n kw7 false) 24))); clear q0 q1 q2; obtain ⟨⟨q0, q1, q2⟩, -, -, -⟩ := tt_all B0.out; clear r0 r1 r2; obtain ⟨⟨r0, r1, r2⟩, -, -, -⟩ := tt_all B1.out; obtain ⟨⟨u0, u1, u2⟩, -, -, -⟩ := tt_all B2.out; clear hr hs hsA)
      | (go_at_call 13; (with_reducible refine (HI.out.same c ls false n HT.out Hn.out c ls false n HT.out Hn.out true (by simp) _ _ _ _ _ RB2.out (Ha.out.keep H.out)).mono ?_); rintro e wn ⟨rfl, hs⟩; replace H := Lib.hid (Stp.trans H.out hs); replace B0 := Lib.hid (B0.out.keep hs B0.out.lt); replace B1 := Lib.hid (B1.out.keep hs B1.out.lt); replace B2 := Lib.hid (B2.out.keep hs B2.out.lt); replace RB1 := Lib.hid (RB1.out.keep hs); replace RB2 := Lib.hid (RB2.out.keep hs); clear q0 q1 q2; obtain ⟨⟨q0, q1, q2⟩, -, -, -⟩ := tt_all B0.out; clear r0 r1 r2; obtain ⟨⟨r0, r1, r2⟩, -, -, -⟩ := tt_all B1.out; clear u0 u1 u2; obtain ⟨⟨u0, u1, u2⟩, -, -, -⟩ := tt_all B2.out; clear hs))
    go_ret
    exact ⟨rfl, H.out⟩

theorem fills_walk (I : TapeI) (t : Tp) (A : Option Addr) (k : Nat) (w : World) (ha : RdL w A k t.rows) (hs : SmallT t) (rs : List L) (B : Option Addr) (d : Nat) (hr : RdL w B d rs) (hq2 : rs.length < 9223372036854775808) (her : ∀ r ∈ rs, r.length < 9223372036854775808) :
    Calls Try.prog 4 #[tv t A k, .slice B rs.length d] w fun e w' => e = .returned (.bool true) ∧ Stp w w' := by
  obtain ⟨c, ls, m⟩ := t
  cases hx : (Rec.fewR ls && Rec.fewR rs)
  · exact fills_no I c ls m _ hs rfl A k w ha rs _ rfl B d hr hq2 her _ _ rfl rfl hx
  · simp only [Bool.and_eq_true] at hx
    obtain ⟨hF, hFr⟩ := hx
    cases hM : mayT ⟨c, ls, m⟩
    · exact fills_may I c ls m _ hs rfl A k w ha rs _ rfl B d hr hq2 her hF hFr hM
    · cases hm : m
      · subst hm
        obtain ⟨a1, a2, a3, a4, a5, -⟩ := fillG_open rs ⟨c, ls, false⟩ hM rfl
        obtain ⟨⟨t1, j, e⟩, hG⟩ : ∃ y, fillG ⟨c, ls, false⟩ rs = y := ⟨_, rfl⟩
        have hV : fillV ⟨c, ls, false⟩ rs = (t1, j, e) := by rw [fillV, if_pos hM, hG]
        rw [hG] at a1 a2 a3 a4 a5
        dsimp only at a1 a2 a3 a4 a5
        subst a1
        rcases a4 with h | h | h
        · subst h
          exact fills_0 I c ls false _ hs rfl A k w ha rs _ rfl B d hr hq2 her hF hFr rfl hM j a2 hV (a3.1 rfl)
        · subst h
          exact fills_1 I c ls false _ hs rfl A k w ha rs _ rfl B d hr hq2 her hF hFr rfl hM j a2 hV (fun h => by have := a3.2 h; omega)
        · subst h
          exact fills_8 I c ls false _ hs rfl A k w ha rs _ rfl B d hr hq2 her hF hFr rfl hM j a2 hV (fun h => by have := a3.2 h; omega) (a5 rfl)
      · subst hm
        exact fills_mark I c ls true _ hs rfl A k w ha rs _ rfl B d hr hq2 her hF hFr hM rfl
end Go.Proofs.Ytphpeoalokaheaa.Tape
