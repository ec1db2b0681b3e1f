/-
  The law VolumeBegin, walked over the contracts: no statement is proved here.
-/
import Derived.Test.YtopihahjjcpnpaaGreatDoorVolZ
namespace Go.Proofs.YtopihahjjcpnpaaGreatDoor.Vol
open Go.Sort Go.RowKit Go.Proofs.YtopihahjjcpnpaaGreatDoor.Str Go.Proofs.YtopihahjjcpnpaaGreatDoor.Base Go.Proofs.YtopihahjjcpnpaaGreatDoor.Node Go.Proofs.YtopihahjjcpnpaaGreatDoor.Head Go.Proofs.YtopihahjjcpnpaaGreatDoor.Long Go.Proofs.YtopihahjjcpnpaaGreatDoor.Entry Go.Proofs.YtopihahjjcpnpaaGreatDoor.LabelM Go.Proofs.YtopihahjjcpnpaaGreatDoor.ContM Go.Proofs.YtopihahjjcpnpaaGreatDoor.Stream Go.Proofs.YtopihahjjcpnpaaGreatDoor.VolM
open Go.Proofs.YtopihahjjcpnpaaGreatDoor.Tree (oneB mayT fewT)
set_option linter.unusedVariables false

abbrev LabGet (Tb : World → Prop) : Prop := ∀ (l : List UInt8) (z : Nat), l.length = z → ∀ (s : List UInt8) (n e0 : Int), getL l = (s, n, e0) → ∀ (A : Option Addr) (c : Nat) (w : World), RdA w A c (bs l) → Tb w →
    Calls Tryz.prog 28 #[.slice A z c] w fun e w' => e = .returned (.tuple #[.string ⟨s.toArray⟩, .int .i64 n, .int .i64 e0]) ∧ Stp w w'
abbrev WhereI : Prop := ∀ (t : List Nd) (m : Nat), t.length = m → m ≤ 1000 → (∀ n ∈ t, SmallN n) → ∀ (i : Int), -9223372036854775808 ≤ i → i < 9223372036854775808 → ∀ (k j : Int), whereS t i = (k, j) → ∀ (A : Option Addr) (c : Nat) (w : World), RdN w A c t →
    Calls Tryz.prog 29 #[.slice A m c, .int .i64 i] w fun e w' => e = .returned (.tuple #[.int .i64 k, .int .i64 j]) ∧ Stp w w'
abbrev ContGet : Prop := ∀ (ls : LL) (z : Nat), ls.length = z → z < 9223372036854775808 → (∀ l ∈ ls, l.length < 9223372036854775808) → ∀ (m : Nd) (off whole k : Int) (b : Bool), getC ls = (m, off, whole, k, b) → ∀ (A : Option Addr) (c : Nat) (w : World), RdL w A c ls →
    Calls Tryz.prog 30 #[.slice A z c] w fun e w' => e = .returned (.tuple #[nv m, .int .i64 off, .int .i64 whole, .int .i64 k, .bool b]) ∧ Stp w w'
theorem wrap_nat (h : Nat) (hh : h < 9223372036854775808) : IntKind.i64.wrap (h : Int) = (h : Int) := by rw [IntKind.wrap_i64] <;> omega
set_option maxRecDepth 100000 in
set_option maxHeartbeats 4000000 in
theorem begin_out {Tb : World → Prop} (I : VolI Tb) (t : List Nd) (m : Nat) (hm : t.length = m) (hml : m < 9223372036854775808) (hn : ∀ n ∈ t, SmallN n) (s : Sett) (hs : SmallS s) (T A : Option Addr) (ct k : Nat) (w : World) (ht : RdN w T ct t) (ha : RdZ w A k s.caps) (htab : Tb w) (pos n : Int) (hp1 : -9223372036854775808 ≤ pos) (hp2 : pos < 9223372036854775808) (hq1 : -9223372036854775808 ≤ n) (hq2 : n < 9223372036854775808) (hout : fewT t = false ∨ fewS s = false) :
    Calls Tryz.prog 7 #[.slice T m ct, sv s A k, .int .i64 pos, .int .i64 n] w fun e w' => e = .returned (.bool true) ∧ Stp w w' := by
  have h0 := Lib.hid (Stp.alloc (Stp.refl w) (.cells (scells s A k) 25))
  have HB := Lib.hid (Blk.new w 25 (scells s A k))
  have Ht := Lib.hid ht
  have Ha : Hid (RdZ w A k s.caps) := Lib.hid ha
  have HT := Lib.hid htab
  have HI := Lib.hid I
  have Hm := Lib.hid hm
  have Hml := Lib.hid hml
  have Hn := Lib.hid hn
  have Hs := Lib.hid hs
  obtain ⟨q0, q1, q2⟩ := set_cells3 HB.out
  clear ht ha htab I hm hml hn hs
  obtain ⟨b1, f1⟩ : ∃ b, fewT t = b := ⟨_, rfl⟩
  obtain ⟨b2, f2⟩ : ∃ b, fewS s = b := ⟨_, rfl⟩
  have F1 := Lib.hid f1
  have F2 := Lib.hid f2
  have key : b1 = false ∨ (b1 = true ∧ b2 = false) := by
    rw [f1, f2] at hout
    cases b1 <;> simp_all
  clear f1 f2 hout
  rcases key with rfl | ⟨rfl, rfl⟩
  all_goals
    go_enter Tryz.func7, Tryz.ntmps7
    go_wp2_with (first
      | (go_at_call 11; (refine (awake_s HI.out _ (HI.out.keep HT.out h0.out)).mono ?_); rintro e wn ⟨rfl, hs⟩; replace h0 := Lib.hid (Stp.trans h0.out hs); replace HB := Lib.hid (HB.out.keep hs HB.out.lt); clear q0 q1 q2; clear hs; obtain ⟨q0, q1, q2⟩ := set_cells3 HB.out)
      | (go_at_call 12; (with_reducible refine (fewt_v t m Hm.out Hml.out _ F1.out T ct _ (Ht.out.keep h0.out)).mono ?_); rintro e wn ⟨rfl, hs⟩; replace h0 := Lib.hid (Stp.trans h0.out hs); replace HB := Lib.hid (HB.out.keep hs HB.out.lt); clear q0 q1 q2; clear hs; obtain ⟨q0, q1, q2⟩ := set_cells3 HB.out)
      | (go_at_call 13; (refine (fews_v s A k _ rfl _ F2.out _).mono ?_); rintro e wn ⟨rfl, hs⟩; replace h0 := Lib.hid (Stp.trans h0.out hs); replace HB := Lib.hid (HB.out.keep hs HB.out.lt); clear q0 q1 q2; clear hs; obtain ⟨q0, q1, q2⟩ := set_cells3 HB.out))
    go_ret
    exact ⟨rfl, h0.out⟩
set_option maxRecDepth 100000 in
set_option maxHeartbeats 8000000 in
theorem begin_in {Tb : World → Prop} (I : VolI Tb) (t : List Nd) (m : Nat) (hm : t.length = m) (hml : m < 9223372036854775808) (hn : ∀ n ∈ t, SmallN n) (s : Sett) (hs : SmallS s) (T A : Option Addr) (ct k : Nat) (w : World) (ht : RdN w T ct t) (ha : RdZ w A k s.caps) (htab : Tb w) (pos n : Int) (hp1 : -9223372036854775808 ≤ pos) (hp2 : pos < 9223372036854775808) (hq1 : -9223372036854775808 ≤ n) (hq2 : n < 9223372036854775808) (f1 : fewT t = true) (f2 : fewS s = true) (hlab : LabGet Tb) (hwh : WhereI) (hcg : ContGet) :
    Calls Tryz.prog 7 #[.slice T m ct, sv s A k, .int .i64 pos, .int .i64 n] w fun e w' => e = .returned (.bool true) ∧ Stp w w' := by
  have h0 := Lib.hid (Stp.alloc (Stp.refl w) (.cells (scells s A k) 25))
  have HB := Lib.hid (Blk.new w 25 (scells s A k))
  have Ht := Lib.hid ht
  have Ha : Hid (RdZ w A k s.caps) := Lib.hid ha
  have HT := Lib.hid htab
  have HI := Lib.hid I
  have Hm := Lib.hid hm
  have Hml := Lib.hid hml
  have Hn := Lib.hid hn
  have Hs := Lib.hid hs
  obtain ⟨q0, q1, q2⟩ := set_cells3 HB.out
  clear ht ha htab I hm hml hn hs
  have F1 := Lib.hid f1
  have F2 := Lib.hid f2
  have Hm3 : Hid (m ≤ 1000) := Lib.hid (by have := (Tree.fewT_iff.1 f1).1; rw [Hm.out] at this; omega)
  obtain ⟨X, hX⟩ : ∃ X, beginV t s pos n = X := ⟨_, rfl⟩
  obtain ⟨zx, hzx⟩ : ∃ z, X.length = z := ⟨_, rfl⟩
  obtain ⟨bb, hbb⟩ : ∃ b, beginB t s pos n = b := ⟨_, rfl⟩
  have HX := Lib.hid hX
  have Hzx := Lib.hid hzx
  have Hbb := Lib.hid hbb
  cases bb
  · rw [beginV_no hbb] at hX
    subst hX
    obtain rfl : zx = 0 := hzx.symm
    clear f1 f2 hlab hwh hcg hzx hbb
    go_enter Tryz.func7, Tryz.ntmps7
    go_wp2_with (first
      | (go_at_call 11; (refine (awake_s HI.out _ (HI.out.keep HT.out h0.out)).mono ?_); rintro e wn ⟨rfl, hs⟩; replace h0 := Lib.hid (Stp.trans h0.out hs); replace HB := Lib.hid (HB.out.keep hs HB.out.lt); clear q0 q1 q2; clear hs; obtain ⟨q0, q1, q2⟩ := set_cells3 HB.out)
      | (go_at_call 12; (with_reducible refine (fewt_v t m Hm.out Hml.out _ F1.out T ct _ (Ht.out.keep h0.out)).mono ?_); rintro e wn ⟨rfl, hs⟩; replace h0 := Lib.hid (Stp.trans h0.out hs); replace HB := Lib.hid (HB.out.keep hs HB.out.lt); clear q0 q1 q2; clear hs; obtain ⟨q0, q1, q2⟩ := set_cells3 HB.out)
      | (go_at_call 13; (refine (fews_v s A k _ rfl _ F2.out _).mono ?_); rintro e wn ⟨rfl, hs⟩; replace h0 := Lib.hid (Stp.trans h0.out hs); replace HB := Lib.hid (HB.out.keep hs HB.out.lt); clear q0 q1 q2; clear hs; obtain ⟨q0, q1, q2⟩ := set_cells3 HB.out)
      | (go_at_call 16; (refine (HI.out.begin t m Hm.out Hm3.out Hn.out s A k _ rfl Hs.out pos n hp1 hp2 hq1 hq2 _ HX.out _ Hzx.out _ Hbb.out T ct _ (Ht.out.keep h0.out) (RdA.keep Ha.out h0.out) (HI.out.keep HT.out h0.out)).mono ?_); rintro e wn ⟨B1, d1, rfl, hr, hs⟩; replace h0 := Lib.hid (Stp.trans h0.out hs); replace HB := Lib.hid (HB.out.keep hs HB.out.lt); have HR := Lib.hid hr; clear hr; clear q0 q1 q2; clear hs; obtain ⟨q0, q1, q2⟩ := set_cells3 HB.out))
    go_ret
    exact ⟨rfl, h0.out⟩
  · obtain ⟨b, g, kk, j, e1, e2, e3, e4, e5, e6⟩ := begin_facts hbb
    obtain rfl : X = b :: g := hX.symm.trans e1
    obtain ⟨zg, hzg⟩ : ∃ z, g.length = z := ⟨_, rfl⟩
    have hzxg : zx = zg + 1 := by rw [← hzx, List.length_cons, hzg]
    have H512 := Lib.hid e2
    have HGl := Lib.hid e3
    have HWh := Lib.hid e4
    have HLg := Lib.hid hlab
    have HWi := Lib.hid hwh
    have HCg := Lib.hid hcg
    have Hzg := Lib.hid hzg
    have Hzxg := Lib.hid hzxg
    have g1 : decide (kk < 0) = false := decide_eq_false (by omega)
    have g2 : ((zx : Int) == 0) = false := by simp only [beq_eq_false_iff_ne]; omega
    have hzg9 := beginV_le t s pos n
    rw [hX, hzx] at hzg9
    clear f1 f2 hlab hwh hcg hX hzx hbb e1 e2 e3 e4 hzg hzxg
    go_enter Tryz.func7, Tryz.ntmps7
    go_upto_region 7 with (first
      | (go_at_call 11; (refine (awake_s HI.out _ (HI.out.keep HT.out h0.out)).mono ?_); rintro e wn ⟨rfl, hs⟩; replace h0 := Lib.hid (Stp.trans h0.out hs); replace HB := Lib.hid (HB.out.keep hs HB.out.lt); clear q0 q1 q2; clear hs; obtain ⟨q0, q1, q2⟩ := set_cells3 HB.out)
      | (go_at_call 12; (with_reducible refine (fewt_v t m Hm.out Hml.out _ F1.out T ct _ (Ht.out.keep h0.out)).mono ?_); rintro e wn ⟨rfl, hs⟩; replace h0 := Lib.hid (Stp.trans h0.out hs); replace HB := Lib.hid (HB.out.keep hs HB.out.lt); clear q0 q1 q2; clear hs; obtain ⟨q0, q1, q2⟩ := set_cells3 HB.out)
      | (go_at_call 13; (refine (fews_v s A k _ rfl _ F2.out _).mono ?_); rintro e wn ⟨rfl, hs⟩; replace h0 := Lib.hid (Stp.trans h0.out hs); replace HB := Lib.hid (HB.out.keep hs HB.out.lt); clear q0 q1 q2; clear hs; obtain ⟨q0, q1, q2⟩ := set_cells3 HB.out)
      | (go_at_call 16; (refine (HI.out.begin t m Hm.out Hm3.out Hn.out s A k _ rfl Hs.out pos n hp1 hp2 hq1 hq2 _ HX.out _ Hzx.out _ Hbb.out T ct _ (Ht.out.keep h0.out) (RdA.keep Ha.out h0.out) (HI.out.keep HT.out h0.out)).mono ?_); rintro e wn ⟨B1, d1, rfl, hr, hs⟩; replace h0 := Lib.hid (Stp.trans h0.out hs); replace HB := Lib.hid (HB.out.keep hs HB.out.lt); have HR := Lib.hid hr; clear hr; clear q0 q1 q2; clear hs; obtain ⟨q0, q1, q2⟩ := set_cells3 HB.out))
    have hlen : zx ≤ d1 := by
      obtain ⟨us, e1, e2, -⟩ := HR.out
      have h1 := RdA.length_le e2
      rw [e1, Hzx.out] at h1
      exact h1
    obtain ⟨gb, ob, Ab, cb, hB, qb, hRb⟩ := HR.out.at_ (j := 0) (l := b) rfl
    subst hB
    rw [H512.out, Nat.add_zero] at qb
    have HRb := Lib.hid hRb
    obtain ⟨A9, hA1, hA2⟩ := Entry.slice_from gb ob zx d1 1 (by have := Hzxg.out; omega) hlen
    have csl : ∀ w, (Instr.slice 33 (.slice (some ⟨gb, ob, none⟩) zx d1) (some (.int .i64 1)) none none).run Tryz.prog w = .ok (.slice A9 zg (d1 - 1)) w := fun w => by
      have h1 := hA1 w
      rw [show zx - 1 = zg by have := Hzxg.out; omega] at h1
      exact h1
    have HA9 : Hid (∀ w', RdL w' (some ⟨gb, ob, none⟩) d1 (b :: g) → RdL w' A9 (d1 - 1) g) := Lib.hid fun w' h => hA2 w' (b :: g) Hzx.out h
    have g3 : (0 : Int) < (zx : Int) := by have := Hzxg.out; omega
    clear hRb hA1 hA2 hlen
    rcases e6 with ⟨hj, rfl⟩ | ⟨hj, i, nd, rfl, hk, hj5, hg5, hget⟩
    · have g4 : decide (j < 0) = true := decide_eq_true hj
      have g5 : ((zx : Int) == 1) = true := by
        have := Hzg.out
        rw [List.length_nil] at this
        have := Hzxg.out
        simp only [beq_iff_eq]
        omega
      clear csl hj
      go_wp2_with (first
        | (go_at_call 28; (refine (HLg.out b 512 H512.out s.label n 0 HGl.out Ab cb _ HRb.out (HI.out.keep HT.out h0.out)).mono ?_); rintro e wn ⟨rfl, hs⟩; replace h0 := Lib.hid (Stp.trans h0.out hs); replace HB := Lib.hid (HB.out.keep hs HB.out.lt); replace HR := Lib.hid (HR.out.keep hs); clear q0 q1 q2; clear hs; obtain ⟨q0, q1, q2⟩ := set_cells3 HB.out)
        | (go_at_call 29; (refine (HWi.out t m Hm.out Hm3.out Hn.out pos hp1 hp2 kk j HWh.out T ct _ (Ht.out.keep h0.out)).mono ?_); rintro e wn ⟨rfl, hs⟩; replace h0 := Lib.hid (Stp.trans h0.out hs); replace HB := Lib.hid (HB.out.keep hs HB.out.lt); replace HR := Lib.hid (HR.out.keep hs); clear q0 q1 q2; clear hs; obtain ⟨q0, q1, q2⟩ := set_cells3 HB.out))
      go_ret
      exact ⟨rfl, h0.out⟩
    · have hi := (List.getElem?_eq_some_iff.1 hk).1
      rw [Hm.out] at hi
      rw [Hzg.out] at hget
      have g4 : decide (j < 0) = false := decide_eq_false (by omega)
      have g5 : decide ((m : Int) ≤ (i : Int)) = false := decide_eq_false (by omega)
      have g6 : (0 : Int) ≤ (i : Int) := by omega
      have g7 : (i : Int) < (m : Int) := by omega
      have k1 : IntKind.i64.wrap (512 * j) = 512 * j := by rw [IntKind.wrap_i64] <;> omega
      have k2 : IntKind.i64.wrap ((zx : Int) - 1) = (zg : Int) := by
        have h1 := Hzxg.out
        have h2 : (zx : Int) - 1 = (zg : Int) := by omega
        rw [h2]
        exact wrap_nat zg (by omega)
      have HGc := Lib.hid hget
      have HG5 : Hid (∀ x ∈ g, x.length < 9223372036854775808) := Lib.hid fun x hx => by rw [hg5 x hx]; omega
      have Hzg9 : Hid (zg < 9223372036854775808) := Lib.hid (by have := Hzxg.out; omega)
      have Hk := Lib.hid hk
      clear hj hj5 hg5 hget hk hi
      go_upto_region 16 with (first
        | (go_at_call 28; (refine (HLg.out b 512 H512.out s.label n 0 HGl.out Ab cb _ HRb.out (HI.out.keep HT.out h0.out)).mono ?_); rintro e wn ⟨rfl, hs⟩; replace h0 := Lib.hid (Stp.trans h0.out hs); replace HB := Lib.hid (HB.out.keep hs HB.out.lt); replace HR := Lib.hid (HR.out.keep hs); clear q0 q1 q2; clear hs; obtain ⟨q0, q1, q2⟩ := set_cells3 HB.out)
        | (go_at_call 29; (refine (HWi.out t m Hm.out Hm3.out Hn.out pos hp1 hp2 (i : Int) j HWh.out T ct _ (Ht.out.keep h0.out)).mono ?_); rintro e wn ⟨rfl, hs⟩; replace h0 := Lib.hid (Stp.trans h0.out hs); replace HB := Lib.hid (HB.out.keep hs HB.out.lt); replace HR := Lib.hid (HR.out.keep hs); clear q0 q1 q2; clear hs; obtain ⟨q0, q1, q2⟩ := set_cells3 HB.out)
        | (go_at_call 30; refine (HCg.out g zg Hzg.out Hzg9.out HG5.out (bare nd) (512 * j) (nd.data.length : Int) (zg : Int) true HGc.out A9 (d1 - 1) _ (HA9.out _ HR.out)).mono ?_; rintro e w9 ⟨rfl, hs⟩; replace h0 := Lib.hid (Stp.trans h0.out hs); clear hs q0 q1 q2))
      change Code.wp _ _ _ _ (w9.alloc (.cells (ncells (bare nd)) 52))
      have hbn := Blk.new w9 52 (ncells (bare nd))
      have h9 := Stp.alloc h0.out (.cells (ncells (bare nd)) 52)
      obtain ⟨W, hW⟩ : ∃ W, w9.alloc (.cells (ncells (bare nd)) 52) = W := ⟨_, rfl⟩
      rw [hW] at hbn h9 ⊢
      obtain ⟨gx, hgx⟩ : ∃ g, w9.heap.size = g := ⟨_, rfl⟩
      rw [hgx] at hbn ⊢
      obtain ⟨p0, -⟩ := nd_cells hbn
      replace p0 : W.cell? ⟨gx, 0, none⟩ = some (.string ⟨nd.path.toArray⟩) := p0
      obtain ⟨b9, o9, e9, -, r0, r1, r2, r3, r4, r5, r6, r7⟩ := (Ht.out.keep h9).cells Hk.out
      subst e9
      have H9 := Lib.hid h9
      have v0 := cell_regrown p0
      have v1 := cell_regrown r0
      have v2 := cell_regrown r7
      clear hW hgx hbn h9 h0 HR csl qb p0 r0 r1 r2 r3 r4 r5 r6 r7
      refine wp_region_quiet_below (by kernel_rfl) (by kernel_rfl) ?_
      repeat (go_big_quiet_step (fail))
      refine wpQuiet_nil ?_
      intro _ hw'
      obtain ⟨⟨dq, osq⟩, hw''⟩ := hw'
      subst hw''
      have X1 := Lib.hid (show Stp W (grow (redrawn W dq) osq) from below_regrown W dq osq)
      clear v0 v1 v2
      dsimp only
      generalize grow (redrawn W dq) osq = Y at X1 ⊢
      go_wp2
      go_ret
      exact ⟨rfl, Stp.trans H9.out X1.out⟩
theorem begin_walk {Tb : World → Prop} (I : VolI Tb) (t : List Nd) (m : Nat) (hm : t.length = m) (hml : m < 9223372036854775808) (hn : ∀ n ∈ t, SmallN n) (s : Sett) (hs : SmallS s) (T A : Option Addr) (ct k : Nat) (w : World) (ht : RdN w T ct t) (ha : RdZ w A k s.caps) (htab : Tb w) (pos n : Int) (hp1 : -9223372036854775808 ≤ pos) (hp2 : pos < 9223372036854775808) (hq1 : -9223372036854775808 ≤ n) (hq2 : n < 9223372036854775808) (hlab : LabGet Tb) (hwh : WhereI) (hcg : ContGet) :
    Calls Tryz.prog 7 #[.slice T m ct, sv s A k, .int .i64 pos, .int .i64 n] w fun e w' => e = .returned (.bool true) ∧ Stp w w' := by
  by_cases h : fewT t = false ∨ fewS s = false
  · exact begin_out I t m hm hml hn s hs T A ct k w ht ha htab pos n hp1 hp2 hq1 hq2 h
  · rw [not_or] at h
    exact begin_in I t m hm hml hn s hs T A ct k w ht ha htab pos n hp1 hp2 hq1 hq2 (by simpa using h.1) (by simpa using h.2) hlab hwh hcg
end Go.Proofs.YtopihahjjcpnpaaGreatDoor.Vol
