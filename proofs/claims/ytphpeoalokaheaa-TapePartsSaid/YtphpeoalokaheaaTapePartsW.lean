/-
  The law TapeParts, walked over the contracts: no statement is proved here.
-/
import Derived.Test.YtphpeoalokaheaaTapeP
namespace Go.Proofs.Ytphpeoalokaheaa.Tape
open Go.RowKit Go.Proofs.Ytphpeoalokaheaa.Str Go.Proofs.Ytphpeoalokaheaa.Base Go.Proofs.Ytphpeoalokaheaa.BlockM Go.Proofs.Ytphpeoalokaheaa.RecM Go.Proofs.Ytphpeoalokaheaa.TapeM
set_option linter.unusedVariables false

set_option maxRecDepth 100000 in
set_option maxHeartbeats 2000000 in
theorem parts_no (I : TapeI) (c : Int) (ls : List L) (m : Bool) (n : Nat) (hs : SmallT ⟨c, ls, m⟩) (hn : ls.length = n) (A : Option Addr) (k : Nat) (w : World) (ha : RdL w A k ls) (a b : List L) (na nb : Nat) (hna : a.length = na) (hnb : b.length = nb) (Aa Ab : Option Addr) (ka kb : Nat) (haa : RdL w Aa ka a) (hab : RdL w Ab kb b) (hla : na < 9223372036854775808) (hlb : nb < 9223372036854775808) (hea : ∀ r ∈ a, r.length < 9223372036854775808) (heb : ∀ r ∈ b, r.length < 9223372036854775808) (x y z : Bool) (hF : Rec.fewR ls = x) (hFa : Rec.fewR a = y) (hFb : Rec.fewR b = z) (hx : (x && y && z) = false) :
    Calls Try.prog 8 #[tc c A n k m, .slice Aa na ka, .slice Ab nb kb] w fun e w' => e = .returned (.bool true) ∧ Stp w w' := by
  have HI := Lib.hid I
  have HS := Lib.hid hs
  have Ha := Lib.hid ha
  have Hn := Lib.hid hn
  have HL := Lib.hid hs.each
  have HN : Hid (n < 9223372036854775808) := Lib.hid (by rw [← hn]; exact hs.few)
  have H := Lib.hid (Stp.alloc (Stp.refl w) (.cells (tcs c A n k m) 24))
  have B0 := Lib.hid (Blk.new w 24 (tcs c A n k m))
  obtain ⟨⟨q0, q1, q2⟩, -, -, -⟩ := tt_all B0.out
  have b1 := hs.low
  have b2 := hs.high
  dsimp only at b1 b2
  have Haa := Lib.hid haa
  have Hab := Lib.hid hab
  have Hna := Lib.hid hna
  have Hnb := Lib.hid hnb
  have Hla := Lib.hid hla
  have Hlb := Lib.hid hlb
  have Hea := Lib.hid hea
  have Heb := Lib.hid heb
  have HF := Lib.hid hF
  have HFa := Lib.hid hFa
  have HFb := Lib.hid hFb
  clear hs hn ha hF hFa hFb haa hab hna hnb hla hlb hea heb
  cases x <;> cases y <;> cases z <;> simp at hx
  all_goals
    go_enter Try.func8, Try.ntmps8
    go_wp2_with (first
      | (go_at_call 9; refine (awake_s HI.out _).mono ?_; rintro e wn ⟨rfl, hs⟩; replace H := Lib.hid (Stp.trans H.out hs); replace B0 := Lib.hid (B0.out.keep hs B0.out.lt); clear q0 q1 q2; obtain ⟨⟨q0, q1, q2⟩, -, -, -⟩ := tt_all B0.out; clear hs)
      | (go_at_call 10; (with_reducible refine (Rec.fewr_n ls n Hn.out _ _ _ (Ha.out.keep H.out) HN.out HL.out).mono ?_); rintro e wn ⟨rfl, hs⟩; rw [HF.out]; replace H := Lib.hid (Stp.trans H.out hs); replace B0 := Lib.hid (B0.out.keep hs B0.out.lt); clear q0 q1 q2; obtain ⟨⟨q0, q1, q2⟩, -, -, -⟩ := tt_all B0.out; clear hs)
      | (go_at_call 10; (with_reducible refine (Rec.fewr_n a na Hna.out _ _ _ (Haa.out.keep H.out) Hla.out Hea.out).mono ?_); rintro e wn ⟨rfl, hs⟩; rw [HFa.out]; replace H := Lib.hid (Stp.trans H.out hs); replace B0 := Lib.hid (B0.out.keep hs B0.out.lt); clear q0 q1 q2; obtain ⟨⟨q0, q1, q2⟩, -, -, -⟩ := tt_all B0.out; clear hs)
      | (go_at_call 10; (with_reducible refine (Rec.fewr_n b nb Hnb.out _ _ _ (Hab.out.keep H.out) Hlb.out Heb.out).mono ?_); rintro e wn ⟨rfl, hs⟩; rw [HFb.out]; replace H := Lib.hid (Stp.trans H.out hs); replace B0 := Lib.hid (B0.out.keep hs B0.out.lt); clear q0 q1 q2; obtain ⟨⟨q0, q1, q2⟩, -, -, -⟩ := tt_all B0.out; clear hs))
    go_ret
    exact ⟨rfl, H.out⟩
theorem row_ne {w : World} {lo g : Nat} {v : Value} {ls : List L} (h : Base.Rows w lo 25 v ls) {cs : Array Value} (hb : Blk w g 24 cs) : some g ≠ v.ownBlock := by
  obtain ⟨us, ho, -⟩ := h
  rcases ho with ⟨rfl, -⟩ | ⟨g2, cap, cur, fz, rfl, -, hg, -⟩
  · intro e
    simp [Value.ownBlock] at e
  · intro e
    simp only [Value.ownBlock, Option.some.injEq] at e
    subst e
    rw [show w.heap[g]? = _ from hb] at hg
    simp at hg
set_option maxRecDepth 100000 in
set_option maxHeartbeats 8000000 in
theorem parts_all (I : TapeI) (c : Int) (ls : List L) (m : Bool) (n : Nat) (hs : SmallT ⟨c, ls, m⟩) (hn : ls.length = n) (A : Option Addr) (k : Nat) (w : World) (ha : RdL w A k ls) (a b : List L) (na nb : Nat) (hna : a.length = na) (hnb : b.length = nb) (Aa Ab : Option Addr) (ka kb : Nat) (haa : RdL w Aa ka a) (hab : RdL w Ab kb b) (hla : na < 9223372036854775808) (hlb : nb < 9223372036854775808) (hea : ∀ r ∈ a, r.length < 9223372036854775808) (heb : ∀ r ∈ b, r.length < 9223372036854775808) (hF : Rec.fewR ls = true) (hFa : Rec.fewR a = true) (hFb : Rec.fewR b = true)
    (c1 : Int) (ls1 : List L) (m1 : Bool) (n1 j1 e1 : Nat) (hX : fillV ⟨c, ls, m⟩ a = (⟨c1, ls1, m1⟩, j1, e1)) (hn1 : ls1.length = n1) (e1i : Int) (he1 : (e1 : Int) = e1i)
    (c2 : Int) (ls2 : List L) (m2 : Bool) (n2 j2 e2 : Nat) (hY : fillV ⟨c1, ls1, m1⟩ b = (⟨c2, ls2, m2⟩, j2, e2)) (hn2 : ls2.length = n2) (e2i : Int) (he2 : (e2 : Int) = e2i)
    (c3 : Int) (ls3 : List L) (m3 : Bool) (n3 j3 e3 : Nat) (hZ : fillV ⟨c, ls, m⟩ (a ++ b) = (⟨c3, ls3, m3⟩, j3, e3)) (hn3 : ls3.length = n3) (e3i : Int) (he3 : (e3 : Int) = e3i) :
    Calls Try.prog 8 #[tc c A n k m, .slice Aa na ka, .slice Ab nb kb] w fun e w' => e = .returned (.bool true) ∧ Stp w w' := by
  have HI := Lib.hid I
  have HS := Lib.hid hs
  have Ha := Lib.hid ha
  have Hn := Lib.hid hn
  have HL := Lib.hid hs.each
  have HN : Hid (n < 9223372036854775808) := Lib.hid (by rw [← hn]; exact hs.few)
  have H := Lib.hid (Stp.alloc (Stp.refl w) (.cells (tcs c A n k m) 24))
  have B0 := Lib.hid (Blk.new w 24 (tcs c A n k m))
  obtain ⟨⟨q0, q1, q2⟩, -, -, -⟩ := tt_all B0.out
  have b1 := hs.low
  have b2 := hs.high
  dsimp only at b1 b2
  have Haa := Lib.hid haa
  have Hab := Lib.hid hab
  have Hna := Lib.hid hna
  have Hnb := Lib.hid hnb
  have Hla := Lib.hid hla
  have Hlb := Lib.hid hlb
  have Hea := Lib.hid hea
  have Heb := Lib.hid heb
  have HF := Lib.hid hF
  have HFa := Lib.hid hFa
  have HFb := Lib.hid hFb
  have HT := Lib.hid (few_of hs hF)
  obtain ⟨x1, x2⟩ := fewR_n hF
  obtain ⟨y1, y2⟩ := fewR_n hFa
  obtain ⟨z1, z2⟩ := fewR_n hFb
  obtain ⟨t1, t2, t3, t4⟩ := few_fill hs (by omega) x2 (by omega) y2 hX
  have HT1 := Lib.hid t1
  have hs1 : SmallT ⟨c1, ls1, m1⟩ := ⟨t1.low, t1.high, by dsimp only; omega, fun r hr => by have := t3 r hr; omega⟩
  obtain ⟨u1, u2, u3, u4⟩ := few_fill hs1 (by omega) t3 (by omega) z2 hY
  have HT2 := Lib.hid u1
  have hab3 : ∀ r ∈ a ++ b, r.length ≤ 12000 := fun r hr => by
    rcases List.mem_append.1 hr with h | h
    · exact y2 r h
    · exact z2 r h
  obtain ⟨v1, v2, v3, v4⟩ := few_fill hs (by omega) x2 (by rw [List.length_append]; omega) hab3 hZ
  have HT3 := Lib.hid v1
  rw [hna] at y1
  rw [hnb] at z1
  have Hla2 : Hid (na ≤ 1000) := Lib.hid (by omega)
  have Hlb2 : Hid (nb ≤ 1000) := Lib.hid (by omega)
  have Hea2 : Hid (∀ r ∈ a, r.length ≤ 100000) := Lib.hid (fun r hr => by have := y2 r hr; omega)
  have Heb2 : Hid (∀ r ∈ b, r.length ≤ 100000) := Lib.hid (fun r hr => by have := z2 r hr; omega)
  have Heab : Hid (∀ r ∈ a ++ b, r.length ≤ 100000) := Lib.hid (fun r hr => by have := hab3 r hr; omega)
  obtain ⟨nab, hnab⟩ : ∃ x, (a ++ b).length = x := ⟨_, rfl⟩
  have Hnab := Lib.hid hnab
  have Hnab2 : Hid (nab ≤ 1000) := Lib.hid (by rw [← hnab, List.length_append, hna, hnb]; omega)
  have HX := Lib.hid hX
  have HY := Lib.hid hY
  have HZ := Lib.hid hZ
  have Hn1 := Lib.hid hn1
  have Hn2 := Lib.hid hn2
  have Hn3 := Lib.hid hn3
  have He1 := Lib.hid he1
  have He2 := Lib.hid he2
  have He3 := Lib.hid he3
  have HP := Lib.hid (fillV_parts ⟨c, ls, m⟩ a b)
  have BJ1 : Hid (j1 ≤ 1000) := Lib.hid (by have h := fillV_le ⟨c, ls, m⟩ a; rw [hX] at h; dsimp only at h; omega)
  have BJ2 : Hid (j2 ≤ 1000) := Lib.hid (by have h := fillV_le ⟨c1, ls1, m1⟩ b; rw [hY] at h; dsimp only at h; omega)
  clear hs hn ha hF hFa hFb haa hab hna hnb hla hlb hea heb x1 x2 y1 y2 z1 z2 t1 t2 t3 t4 hs1 u1 u2 u3 u4 hab3 v1 v2 v3 v4 hnab hX hY hZ hn1 hn2 hn3 he1 he2 he3
  go_enter Try.func8, Try.ntmps8
  go_upto_region 9 with (first
    | (go_at_call 9; refine (awake_s HI.out _).mono ?_; rintro e wn ⟨rfl, hs⟩; replace H := Lib.hid (Stp.trans H.out hs); replace B0 := Lib.hid (B0.out.keep hs B0.out.lt); clear q0 q1 q2; obtain ⟨⟨q0, q1, q2⟩, -, -, -⟩ := tt_all B0.out; clear hs)
    | (go_at_call 10; (with_reducible refine (Rec.fewr_n ls n Hn.out _ _ _ (Ha.out.keep H.out) HN.out HL.out).mono ?_); rintro e wn ⟨rfl, hs⟩; rw [HF.out]; replace H := Lib.hid (Stp.trans H.out hs); replace B0 := Lib.hid (B0.out.keep hs B0.out.lt); clear q0 q1 q2; obtain ⟨⟨q0, q1, q2⟩, -, -, -⟩ := tt_all B0.out; clear hs)
    | (go_at_call 10; (with_reducible refine (Rec.fewr_n a na Hna.out _ _ _ (Haa.out.keep H.out) Hla.out Hea.out).mono ?_); rintro e wn ⟨rfl, hs⟩; rw [HFa.out]; replace H := Lib.hid (Stp.trans H.out hs); replace B0 := Lib.hid (B0.out.keep hs B0.out.lt); clear q0 q1 q2; obtain ⟨⟨q0, q1, q2⟩, -, -, -⟩ := tt_all B0.out; clear hs)
    | (go_at_call 10; (with_reducible refine (Rec.fewr_n b nb Hnb.out _ _ _ (Hab.out.keep H.out) Hlb.out Heb.out).mono ?_); rintro e wn ⟨rfl, hs⟩; rw [HFb.out]; replace H := Lib.hid (Stp.trans H.out hs); replace B0 := Lib.hid (B0.out.keep hs B0.out.lt); clear q0 q1 q2; obtain ⟨⟨q0, q1, q2⟩, -, -, -⟩ := tt_all B0.out; clear hs)
    | (go_at_call 15; (with_reducible refine (HI.out.fill c ls m n HT.out Hn.out a na Hna.out Hla2.out Hea2.out c1 ls1 m1 n1 j1 e1 HX.out Hn1.out e1i He1.out _ _ _ _ _ (Ha.out.keep H.out) (Haa.out.keep H.out)).mono ?_); rintro e w5 ⟨Aw5, kw5, rfl, hr, hs, -⟩; have hsA := Stp.alloc hs (.cells (tcs c1 Aw5 n1 kw5 m1) 24); replace H := Lib.hid (Stp.trans H.out hsA); replace B0 := Lib.hid (B0.out.keep hsA B0.out.lt); have B1 := Lib.hid (Blk.new w5 24 (tcs c1 Aw5 n1 kw5 m1)); have RB1 := Lib.hid (hr.keep (Stp.alloc (Stp.refl w5) (.cells (tcs c1 Aw5 n1 kw5 m1) 24))); clear q0 q1 q2; obtain ⟨⟨q0, q1, q2⟩, -, -, -⟩ := tt_all B0.out; obtain ⟨⟨r0, r1, r2⟩, -, -, -⟩ := tt_all B1.out; clear hr hs hsA)
    | (go_at_call 15; (with_reducible refine (HI.out.fill c1 ls1 m1 n1 HT1.out Hn1.out b nb Hnb.out Hlb2.out Heb2.out c2 ls2 m2 n2 j2 e2 HY.out Hn2.out e2i He2.out _ _ _ _ _ RB1.out (Hab.out.keep H.out)).mono ?_); rintro e w6 ⟨Aw6, kw6, rfl, hr, hs, -⟩; have hsA := Stp.alloc hs (.cells (tcs c2 Aw6 n2 kw6 m2) 24); replace H := Lib.hid (Stp.trans H.out hsA); replace B0 := Lib.hid (B0.out.keep hsA B0.out.lt); replace B1 := Lib.hid (B1.out.keep hsA B1.out.lt); replace RB1 := Lib.hid (RB1.out.keep hsA); have B2 := Lib.hid (Blk.new w6 24 (tcs c2 Aw6 n2 kw6 m2)); have RB2 := Lib.hid (hr.keep (Stp.alloc (Stp.refl w6) (.cells (tcs c2 Aw6 n2 kw6 m2) 24))); clear q0 q1 q2; obtain ⟨⟨q0, q1, q2⟩, -, -, -⟩ := tt_all B0.out; clear r0 r1 r2; obtain ⟨⟨r0, r1, r2⟩, -, -, -⟩ := tt_all B1.out; obtain ⟨⟨u0, u1, u2⟩, -, -, -⟩ := tt_all B2.out; clear hr hs hsA))
  obtain ⟨W, hW⟩ : ∃ z, w6.alloc (.cells (tcs c2 Aw6 n2 kw6 m2) 24) = z := ⟨_, rfl⟩
  rw [hW] at H B0 B1 B2 RB1 RB2 ⊢
  clear hW q0 q1 q2 r0 r1 r2 u0 u1 u2
  go_cut [17, 18, 19] from 57 (fun s17 s18 s19 wx => ∃ p A3 k3, s17 = .pointer (some ⟨p, 0, none⟩) ∧ s18 = .int .i64 (j3 : Int) ∧ s19 = .int .i64 e3i ∧ Hid (Blk wx p 24 (tcs c3 A3 n3 k3 m3)) ∧ Hid (RdL wx A3 k3 ls3) ∧ Hid (Stp W wx))
  case first =>
    have Xa := Lib.hid (show Stp W W.drew from Stp.drewN (Stp.refl W) 1)
    have Xb := Lib.hid (show Stp W (W.alloc (.cells (tcs 0 none 0 0 false) 24)).drew from Stp.drewN (Stp.alloc (Stp.refl W) _) 1)
    have Hq1 : Hid (([] : List L).length + a.length ≤ 1000000000) := Lib.hid (by rw [Hna.out]; simp only [List.length_nil]; have := Hla2.out; omega)
    have Hq2 : Hid (a.length + b.length ≤ 1000000000) := Lib.hid (by rw [Hna.out, Hnb.out]; have := Hla2.out; have := Hlb2.out; omega)
    have Hq3 : Hid (some W.heap.size ≠ (Value.slice none 0 0).ownBlock) := Lib.hid (by simp [Value.ownBlock])
    have Nb := Lib.hid (Blk.drew (Blk.new W 24 (tcs 0 none 0 0 false)))
    obtain ⟨⟨q0, q1, q2⟩, -, -, -⟩ := tt_all (Blk.drew B0.out)
    obtain ⟨⟨q3, q4, q5⟩, -, -, -⟩ := tt_all (B0.out.alloc (.cells (tcs 0 none 0 0 false) 24))
    go_region_law (first
      | (refine step_app_rows (w := W.drew) (lo := W.heap.size) rfl _ _ rfl rfl (Base.Rows.nil _ _ _) rfl (Haa.out.keep (Stp.trans H.out Xa.out)) Hna.out Hq1.out (Nat.le_refl _) ?_; intro v8 w8 hR hg; have K := Lib.hid (Base.Rows.stp (Base.Rows.nil W.drew W.heap.size 25) Xa.out (Nat.le_refl _) hg); have HR : Hid (Base.Rows w8 W.heap.size 25 v8 a) := Lib.hid hR; clear q0 q1 q2 q3 q4 q5; obtain ⟨⟨q0, q1, q2⟩, -, -, -⟩ := tt_all (B0.out.keep K.out B0.out.lt); obtain ⟨⟨q3, q4, q5⟩, -, -, -⟩ := tt_all ((B0.out.keep K.out B0.out.lt).alloc (.cells (tcs 0 none 0 0 false) 24)); clear hR hg)
      | (refine step_app_rows (w := (W.alloc (.cells (tcs 0 none 0 0 false) 24)).drew) (lo := W.heap.size) rfl _ _ rfl rfl (Base.Rows.nil _ _ _) rfl (Haa.out.keep (Stp.trans H.out Xb.out)) Hna.out Hq1.out Xb.out.size ?_; intro v8 w8 hR hg; have K := Lib.hid (Base.Rows.stp (Base.Rows.nil (W.alloc (.cells (tcs 0 none 0 0 false) 24)).drew W.heap.size 25) Xb.out (Nat.le_refl _) hg); have HR : Hid (Base.Rows w8 W.heap.size 25 v8 a) := Lib.hid hR; have NB := Lib.hid (Nb.out.grown hg Hq3.out); have Np := Lib.hid (Nat.le_refl W.heap.size); clear q0 q1 q2 q3 q4 q5; obtain ⟨⟨q0, q1, q2⟩, -, -, -⟩ := tt_all (B0.out.keep K.out B0.out.lt); obtain ⟨⟨q3, q4, q5⟩, -, -, -⟩ := tt_all ((B0.out.keep K.out B0.out.lt).alloc (.cells (tcs 0 none 0 0 false) 24)); clear hR hg)
      | (refine step_app_rows (w := w8) (lo := W.heap.size) rfl _ _ rfl rfl (HR.out) rfl (Hab.out.keep (Stp.trans H.out K.out)) Hnb.out Hq2.out (K.out.size) ?_; intro v9 w9 hR2 hg2; have K0 := K; have K := Lib.hid (Base.Rows.stp (HR.out) (K.out) (Nat.le_refl _) hg2); have HR2 := Lib.hid hR2; have NB := Lib.hid (NB.out.grown hg2 (row_ne HR.out NB.out)); clear q0 q1 q2 q3 q4 q5; obtain ⟨⟨q0, q1, q2⟩, -, -, -⟩ := tt_all (B0.out.keep K.out B0.out.lt); obtain ⟨⟨q3, q4, q5⟩, -, -, -⟩ := tt_all ((B0.out.keep K.out B0.out.lt).alloc (.cells (tcs 0 none 0 0 false) 24)); clear hR2 hg2)
      | (refine step_app_rows (w := w8) (lo := W.heap.size) rfl _ _ rfl rfl (HR.out) rfl (Hab.out.keep (Stp.trans H.out K.out)) Hnb.out Hq2.out (K.out.size) ?_; intro v9 w9 hR2 hg2; have K0 := K; have K := Lib.hid (Base.Rows.stp (HR.out) (K.out) (Nat.le_refl _) hg2); have HR2 := Lib.hid hR2; clear q0 q1 q2 q3 q4 q5; obtain ⟨⟨q0, q1, q2⟩, -, -, -⟩ := tt_all (B0.out.keep K.out B0.out.lt); obtain ⟨⟨q3, q4, q5⟩, -, -, -⟩ := tt_all ((B0.out.keep K.out B0.out.lt).alloc (.cells (tcs 0 none 0 0 false) 24)); clear hR2 hg2)
      | (refine step_app_rows (w := (w8.alloc (.cells (tcs 0 none 0 0 false) 24))) (lo := W.heap.size) rfl _ _ rfl rfl (HR.out.keep (Stp.alloc (Stp.refl _) _)) rfl (Hab.out.keep (Stp.trans H.out (Stp.alloc K.out (.cells (tcs 0 none 0 0 false) 24)))) Hnb.out Hq2.out ((Stp.alloc K.out (.cells (tcs 0 none 0 0 false) 24)).size) ?_; intro v9 w9 hR2 hg2; have K0 := K; have K := Lib.hid (Base.Rows.stp (HR.out.keep (Stp.alloc (Stp.refl _) _)) (Stp.alloc K.out (.cells (tcs 0 none 0 0 false) 24)) (Nat.le_refl _) hg2); have HR2 := Lib.hid hR2; have NB := Lib.hid ((Blk.new w8 24 (tcs 0 none 0 0 false)).grown hg2 (row_ne (HR.out.keep (Stp.alloc (Stp.refl _) (.cells (tcs 0 none 0 0 false) 24))) (Blk.new w8 24 (tcs 0 none 0 0 false)))); have Np := Lib.hid K0.out.size; clear q0 q1 q2 q3 q4 q5; obtain ⟨⟨q0, q1, q2⟩, -, -, -⟩ := tt_all (B0.out.keep K.out B0.out.lt); obtain ⟨⟨q3, q4, q5⟩, -, -, -⟩ := tt_all ((B0.out.keep K.out B0.out.lt).alloc (.cells (tcs 0 none 0 0 false) 24)); clear hR2 hg2)
      | (go_simp; go_at_call 15; (obtain ⟨A9, k9, hv9, hr9⟩ := rows_n HR2.out Hnab.out; cases hv9; (with_reducible refine (HI.out.fill c ls m n HT.out Hn.out (a ++ b) nab Hnab.out Hnab2.out Heab.out c3 ls3 m3 n3 j3 e3 HZ.out Hn3.out e3i He3.out _ _ _ _ _ (Ha.out.keep (Stp.trans H.out K.out)) (hr9)).mono ?_); rintro e w10 ⟨A3, k3, rfl, hr, hs, hc⟩; have L := Lib.hid (fill_at (c3 := c3) (n3 := n3) (m3 := m3) (Stp.trans K.out hs) Np.out (NB.out.keep hs NB.out.lt) (hc _ NB.out.lt)); obtain ⟨-, s0, s1, s2⟩ := tt_all (NB.out.keep hs NB.out.lt); obtain ⟨⟨t0, t1, t2⟩, -, -, -⟩ := tt_all (NB.out.keep hs NB.out.lt); clear hr hs hc hr9))
      | (go_simp; go_at_call 15; (obtain ⟨A9, k9, hv9, hr9⟩ := rows_n HR2.out Hnab.out; cases hv9; (with_reducible refine (HI.out.fill c ls m n HT.out Hn.out (a ++ b) nab Hnab.out Hnab2.out Heab.out c3 ls3 m3 n3 j3 e3 HZ.out Hn3.out e3i He3.out _ _ _ _ _ (Ha.out.keep (Stp.trans H.out K.out)) (hr9)).mono ?_); rintro e w10 ⟨A3, k3, rfl, hr, hs, hc⟩; have L := Lib.hid (alloc_at (c3 := c3) (n3 := n3) (m3 := m3) (Stp.trans K.out hs) hr); clear hr hs hc hr9))
      | (go_simp; go_at_call 15; (obtain ⟨A9, k9, hv9, hr9⟩ := rows_n HR2.out Hnab.out; cases hv9; (with_reducible refine (HI.out.fill c ls m n HT.out Hn.out (a ++ b) nab Hnab.out Hnab2.out Heab.out c3 ls3 m3 n3 j3 e3 HZ.out Hn3.out e3i He3.out _ _ _ _ _ (Ha.out.keep (Stp.trans H.out (Stp.alloc K.out (.cells (tcs 0 none 0 0 false) 24)))) (hr9.keep (Stp.alloc (Stp.refl w9) (.cells (tcs 0 none 0 0 false) 24)))).mono ?_); rintro e w10 ⟨A3, k3, rfl, hr, hs, hc⟩; have nb := Blk.new w9 24 (tcs 0 none 0 0 false); have L := Lib.hid (fill_at (c3 := c3) (n3 := n3) (m3 := m3) (Stp.trans (Stp.alloc K.out (.cells (tcs 0 none 0 0 false) 24)) hs) K.out.size (nb.keep hs nb.lt) (hc _ nb.lt)); obtain ⟨-, s0, s1, s2⟩ := tt_all (nb.keep hs nb.lt); obtain ⟨⟨t0, t1, t2⟩, -, -, -⟩ := tt_all (nb.keep hs nb.lt); clear nb; clear hr hs hc hr9)))
    all_goals
      go_wp2_with fail
      go_meet
      with_reducible exact ⟨_, A3, k3, rfl, rfl, rfl, Lib.hid L.out.1, Lib.hid L.out.2.1, Lib.hid L.out.2.2⟩
  case rest =>
    obtain ⟨p, A3, k3, rfl, rfl, rfl, HB3, RB3, HK⟩ := hcut
    obtain ⟨W9, hW9⟩ : ∃ z, z = wc := ⟨_, rfl⟩
    subst hW9
    replace B0 := Lib.hid (B0.out.keep HK.out B0.out.lt)
    replace B1 := Lib.hid (B1.out.keep HK.out B1.out.lt)
    replace B2 := Lib.hid (B2.out.keep HK.out B2.out.lt)
    replace RB1 := Lib.hid (RB1.out.keep HK.out)
    replace RB2 := Lib.hid (RB2.out.keep HK.out)
    replace H := Lib.hid (Stp.trans H.out HK.out)
    obtain ⟨⟨q0, q1, q2⟩, -, -, -⟩ := tt_all B0.out
    obtain ⟨⟨r0, r1, r2⟩, -, -, -⟩ := tt_all B1.out
    obtain ⟨⟨u0, u1, u2⟩, -, -, -⟩ := tt_all B2.out
    obtain ⟨⟨v0, v1, v2⟩, -, -, -⟩ := tt_all HB3.out
    obtain ⟨hp1, hp2⟩ := HP.out
    by_cases h : e1 = 0
    · subst h
      have h3 := hp1 (by rw [HX.out])
      rw [HX.out, HZ.out] at h3
      dsimp only at h3
      rw [HY.out] at h3
      simp only [Prod.mk.injEq, Tp.mk.injEq] at h3
      obtain ⟨⟨rfl, rfl, rfl⟩, hj, rfl⟩ := h3
      obtain rfl : n3 = n2 := by rw [← Hn3.out, Hn2.out]
      obtain rfl : e3i = e2i := by rw [← He3.out, He2.out]
      obtain rfl : e1i = 0 := by rw [← He1.out]; rfl
      have hb1 := BJ1.out
      have hb2 := BJ2.out
      have g1 : ((j3 : Int) == (j1 : Int) + (j2 : Int)) = true := by rw [hj]; simp
      clear hp1 hp2 hj
      go_wp2_with (go_at_call 13; (with_reducible refine (HI.out.same c3 ls3 m3 n3 HT3.out Hn3.out c3 ls3 m3 n3 HT3.out Hn3.out true (by simp) _ _ _ _ _ RB3.out RB2.out).mono ?_); rintro e wn ⟨rfl, hs⟩; replace H := Lib.hid (Stp.trans H.out hs); replace B0 := Lib.hid (B0.out.keep hs B0.out.lt); replace B1 := Lib.hid (B1.out.keep hs B1.out.lt); replace B2 := Lib.hid (B2.out.keep hs B2.out.lt); replace HB3 := Lib.hid (HB3.out.keep hs HB3.out.lt); replace RB1 := Lib.hid (RB1.out.keep hs); replace RB2 := Lib.hid (RB2.out.keep hs); replace RB3 := Lib.hid (RB3.out.keep hs); clear q0 q1 q2; obtain ⟨⟨q0, q1, q2⟩, -, -, -⟩ := tt_all B0.out; clear r0 r1 r2; obtain ⟨⟨r0, r1, r2⟩, -, -, -⟩ := tt_all B1.out; clear u0 u1 u2; obtain ⟨⟨u0, u1, u2⟩, -, -, -⟩ := tt_all B2.out; clear v0 v1 v2; obtain ⟨⟨v0, v1, v2⟩, -, -, -⟩ := tt_all HB3.out; clear hs)
      go_ret
      exact ⟨rfl, H.out⟩
    · have h3 := hp2 (by rw [HX.out]; exact h)
      rw [HX.out, HZ.out] at h3
      simp only [Prod.mk.injEq, Tp.mk.injEq] at h3
      obtain ⟨⟨rfl, rfl, rfl⟩, rfl, rfl⟩ := h3
      obtain rfl : n3 = n1 := by rw [← Hn3.out, Hn1.out]
      obtain rfl : e3i = e1i := by rw [← He3.out, He1.out]
      have g1 : (e3i != 0) = true := by rw [bne_iff_ne]; intro hh; rw [← He3.out] at hh; omega
      clear hp1 hp2
      go_wp2_with (go_at_call 13; (with_reducible refine (HI.out.same c3 ls3 m3 n3 HT3.out Hn3.out c3 ls3 m3 n3 HT3.out Hn3.out true (by simp) _ _ _ _ _ RB3.out RB1.out).mono ?_); rintro e wn ⟨rfl, hs⟩; replace H := Lib.hid (Stp.trans H.out hs); replace B0 := Lib.hid (B0.out.keep hs B0.out.lt); replace B1 := Lib.hid (B1.out.keep hs B1.out.lt); replace B2 := Lib.hid (B2.out.keep hs B2.out.lt); replace HB3 := Lib.hid (HB3.out.keep hs HB3.out.lt); replace RB1 := Lib.hid (RB1.out.keep hs); replace RB2 := Lib.hid (RB2.out.keep hs); replace RB3 := Lib.hid (RB3.out.keep hs); clear q0 q1 q2; obtain ⟨⟨q0, q1, q2⟩, -, -, -⟩ := tt_all B0.out; clear r0 r1 r2; obtain ⟨⟨r0, r1, r2⟩, -, -, -⟩ := tt_all B1.out; clear u0 u1 u2; obtain ⟨⟨u0, u1, u2⟩, -, -, -⟩ := tt_all B2.out; clear v0 v1 v2; obtain ⟨⟨v0, v1, v2⟩, -, -, -⟩ := tt_all HB3.out; clear hs)
      go_ret
      exact ⟨rfl, H.out⟩

theorem parts_walk (I : TapeI) (t : Tp) (A : Option Addr) (k : Nat) (w : World) (ha : RdL w A k t.rows) (hs : SmallT t) (a b : List L) (Aa Ab : Option Addr) (ka kb : Nat) (haa : RdL w Aa ka a) (hab : RdL w Ab kb b) (hla : a.length < 9223372036854775808) (hlb : b.length < 9223372036854775808) (hea : ∀ r ∈ a, r.length < 9223372036854775808) (heb : ∀ r ∈ b, r.length < 9223372036854775808) :
    Calls Try.prog 8 #[tv t A k, .slice Aa a.length ka, .slice Ab b.length kb] w fun e w' => e = .returned (.bool true) ∧ Stp w w' := by
  obtain ⟨c, ls, m⟩ := t
  cases hx : (Rec.fewR ls && Rec.fewR a && Rec.fewR b)
  · exact parts_no I c ls m _ hs rfl A k w ha a b _ _ rfl rfl Aa Ab ka kb haa hab hla hlb hea heb _ _ _ rfl rfl rfl hx
  · simp only [Bool.and_eq_true] at hx
    obtain ⟨⟨h1, h2⟩, h3⟩ := hx
    obtain ⟨⟨⟨c1, ls1, m1⟩, j1, e1⟩, hX⟩ : ∃ y, fillV ⟨c, ls, m⟩ a = y := ⟨_, rfl⟩
    obtain ⟨⟨⟨c2, ls2, m2⟩, j2, e2⟩, hY⟩ : ∃ y, fillV ⟨c1, ls1, m1⟩ b = y := ⟨_, rfl⟩
    obtain ⟨⟨⟨c3, ls3, m3⟩, j3, e3⟩, hZ⟩ : ∃ y, fillV ⟨c, ls, m⟩ (a ++ b) = y := ⟨_, rfl⟩
    exact parts_all I c ls m _ hs rfl A k w ha a b _ _ rfl rfl Aa Ab ka kb haa hab hla hlb hea heb h1 h2 h3 c1 ls1 m1 _ j1 e1 hX rfl _ rfl c2 ls2 m2 _ j2 e2 hY rfl _ rfl c3 ls3 m3 _ j3 e3 hZ rfl _ rfl
end Go.Proofs.Ytphpeoalokaheaa.Tape
