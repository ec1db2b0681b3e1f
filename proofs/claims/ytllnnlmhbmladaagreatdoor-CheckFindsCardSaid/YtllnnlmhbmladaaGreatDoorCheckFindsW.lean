/-
  The law CheckFinds, walked over the contracts: no statement is proved here.
-/
import Derived.Test.YtllnnlmhbmladaaGreatDoorCheckI
import Derived.Deep.RegionWith
import Derived.Deep.RegionLaw
import Derived.BigQuiet
namespace Go.Proofs.YtllnnlmhbmladaaGreatDoor.Check
open Go.Sort Go.RowKit Go.Proofs.YtllnnlmhbmladaaGreatDoor.Str Go.Proofs.YtllnnlmhbmladaaGreatDoor.Base Go.Proofs.YtllnnlmhbmladaaGreatDoor.Node Go.Proofs.YtllnnlmhbmladaaGreatDoor.VolM Go.Proofs.YtllnnlmhbmladaaGreatDoor.Vol Go.Proofs.YtllnnlmhbmladaaGreatDoor.StripM Go.Proofs.YtllnnlmhbmladaaGreatDoor.CheckM
open Go.Proofs.YtllnnlmhbmladaaGreatDoor.TapeM (Tp)
open Go.Proofs.YtllnnlmhbmladaaGreatDoor.Tape (FewT SmallT tc tcs tcells)
open Go.Proofs.YtllnnlmhbmladaaGreatDoor.Drive (RdS RowS)
open Go.Proofs.YtllnnlmhbmladaaGreatDoor.Parse (St zeroS)
set_option linter.unusedVariables false

set_option maxRecDepth 100000 in
set_option maxHeartbeats 4000000 in
theorem finds_out {Tb : World → Prop} (I : CheckI Tb) (ts : List Tp) (n : Nat) (hn : ts.length = n) (hn9 : n < 9223372036854775808) (hts : ∀ t ∈ ts, SmallT t) (A : Option Addr) (c : Nat) (name : List UInt8) (hname : name.length ≤ 9223372036854775807) (i : Int) (hi0 : -9223372036854775808 ≤ i) (hi1 : i < 9223372036854775808) (kk : Int) (w : World) (ha : RdS w A c ts) (htab : Tb w)
    (h : fewCB ts = false ∨ decide ((200 : Int) < (name.length : Int)) = true) :
    Calls Tryz.prog 4 #[.slice A n c, .string ⟨name.toArray⟩, .int .i64 i, .int .i64 kk] w fun e w' => e = .returned (.bool true) ∧ Stp w w' := by
  have h0 := Lib.hid (Stp.refl w)
  have HI := Lib.hid I
  have HT := Lib.hid htab
  have Hn := Lib.hid hn
  have Hs := Lib.hid hts
  have Ha := Lib.hid ha
  obtain ⟨f2, F2'⟩ : ∃ b, fewCB ts = b := ⟨_, rfl⟩
  obtain ⟨f3, F3⟩ : ∃ b, decide ((200 : Int) < (name.length : Int)) = b := ⟨_, rfl⟩
  rw [F2', F3] at h
  have F2 := Lib.hid F2'
  have key : (f2 = false) ∨ (f2 = true ∧ f3 = true) := by
    cases f2 <;> cases f3 <;> simp at h ⊢
  clear I htab hn hts ha h F2' hname
  rcases key with rfl | ⟨rfl, rfl⟩
  all_goals
    go_enter Tryz.func4, Tryz.ntmps4
    go_wp2_with (first
      | (go_at_call 6; (refine (awake_s HI.out _ (HI.out.keep HT.out h0.out)).mono ?_); rintro e wn ⟨rfl, hs⟩; replace h0 := Lib.hid (Stp.trans h0.out hs); clear hs)
      | (go_at_call 8; (with_reducible refine (fewts_s ts n Hn.out hn9 Hs.out _ F2.out A c _ (Ha.out.keep h0.out)).mono ?_); rintro e wn ⟨rfl, hs⟩; replace h0 := Lib.hid (Stp.trans h0.out hs); clear hs))
    go_ret
    exact ⟨rfl, h0.out⟩
set_option maxRecDepth 100000 in
set_option maxHeartbeats 16000000 in
theorem finds_in {Tb : World → Prop} (I : CheckI Tb) (ts : List Tp) (n : Nat) (hn : ts.length = n) (hn9 : n < 9223372036854775808) (hts : ∀ t ∈ ts, SmallT t) (A : Option Addr) (c : Nat) (name : List UInt8) (hname : name.length ≤ 9223372036854775807) (i : Int) (hi0 : -9223372036854775808 ≤ i) (hi1 : i < 9223372036854775808) (kk : Int) (w : World) (ha : RdS w A c ts) (htab : Tb w)
    (f2 : fewCB ts = true) (f3 : decide ((200 : Int) < (name.length : Int)) = false) :
    Calls Tryz.prog 4 #[.slice A n c, .string ⟨name.toArray⟩, .int .i64 i, .int .i64 kk] w fun e w' => e = .returned (.bool true) ∧ Stp w w' := by
  obtain ⟨n15, fall⟩ := fewCB_iff.1 f2
  rw [hn] at n15
  have hfc : ∀ t ∈ ts, FewC t := fun t ht => few_c (hts t ht) (fall t ht)
  have hfc2 : ∀ t ∈ ts ++ ts, FewC t := fun t ht => by rcases List.mem_append.1 ht with h | h <;> exact hfc t h
  obtain ⟨X, hX⟩ : ∃ X, findT ts name i = X := ⟨_, rfl⟩
  obtain ⟨z, hz⟩ : ∃ z, X.length = z := ⟨_, rfl⟩
  obtain ⟨X2, hX2⟩ : ∃ X, findT (ts ++ ts) name i = X := ⟨_, rfl⟩
  obtain ⟨z2, hz2⟩ : ∃ z, X2.length = z := ⟨_, rfl⟩
  obtain ⟨n2, hn2⟩ : ∃ n2, n + n = n2 := ⟨_, rfl⟩
  have hz15 : z ≤ 15 := by have := find_len ts name i; rw [hX, hz, hn] at this; omega
  have htw := find_twice ts name i
  rw [hX, hX2, hz, hz2] at htw
  have h0 := Lib.hid (Stp.refl w)
  have HI := Lib.hid I
  have HT := Lib.hid htab
  have Hn := Lib.hid hn
  have Hs := Lib.hid hts
  have Ha := Lib.hid ha
  have F2 := Lib.hid f2
  have Hfc := Lib.hid hfc
  have Hfc2 := Lib.hid hfc2
  have HX := Lib.hid hX
  have Hz := Lib.hid hz
  have HX2 := Lib.hid hX2
  have Hz2 := Lib.hid hz2
  have Htw := Lib.hid htw
  have Hi0 := Lib.hid hi0
  have Hi1 := Lib.hid hi1
  have Hnm := Lib.hid hname
  have Hn2 := Lib.hid hn2
  have H15 : Hid (n ≤ 1000) := Lib.hid (by omega)
  have Hn15 := Lib.hid n15
  have H30 : Hid (n2 ≤ 1000) := Lib.hid (by omega)
  have Hz15 := Lib.hid hz15
  have HL2 : Hid ((ts ++ ts).length = n2) := Lib.hid (by rw [List.length_append, hn, hn2])
  clear I htab hn hts ha f2 hfc hfc2 fall hX hz hX2 hz2 htw hi0 hi1 hname hz15 hn2 n15
  go_enter Tryz.func4, Tryz.ntmps4
  go_upto_region 7 with (first
    | (go_at_call 6; (refine (awake_s HI.out _ (HI.out.keep HT.out h0.out)).mono ?_); rintro e wn ⟨rfl, hs⟩; replace h0 := Lib.hid (Stp.trans h0.out hs); clear hs)
    | (go_at_call 8; (with_reducible refine (fewts_s ts n Hn.out hn9 Hs.out _ F2.out A c _ (Ha.out.keep h0.out)).mono ?_); rintro e wn ⟨rfl, hs⟩; replace h0 := Lib.hid (Stp.trans h0.out hs); clear hs)
    | (go_at_call 10; (with_reducible refine (HI.out.find ts n Hn.out H15.out Hfc.out name _ rfl Hnm.out i Hi0.out Hi1.out X HX.out z Hz.out A c _ (Ha.out.keep h0.out) (HI.out.keep HT.out h0.out)).mono ?_); rintro e wn ⟨Bf, df, rfl, hr, hs⟩; have HRf := Lib.hid hr; replace h0 := Lib.hid (Stp.trans h0.out hs); clear hr hs))
  go_wp2_with fail
  go_loopw [12, 13] (fun inn jv wr => ∃ (j : Nat) (bb : Bool), j ≤ z ∧ inn = .bool bb ∧ jv = .int .i64 (j : Int) ∧ Hid (bb = (X.take j).contains kk) ∧ Hid (Stp wn wr)) (fun _ jv _ => z - (intOf jv).toNat)
  case atStart => exact ⟨0, false, by omega, rfl, rfl, Lib.hid (by simp), Lib.hid (Stp.refl _)⟩
  case round =>
    obtain ⟨j, bb, hj, rfl, rfl, Hbb, HS⟩ := hrel
    by_cases hlt : j < z
    · obtain ⟨x, hx⟩ : ∃ x, X[j]? = some x := ⟨_, List.getElem?_eq_getElem (by rw [Hz.out]; exact hlt)⟩
      obtain ⟨hx0, hx1⟩ := find_at (ts := ts) (name := name) (n := i) (by rw [HX.out]; exact hx)
      rw [Hn.out] at hx1
      obtain ⟨e0, he0⟩ : ∃ b, (x == kk) = b := ⟨_, rfl⟩
      have Hnx : Hid ((bb || e0) = (X.take (j + 1)).contains kk) := Lib.hid (by
        rw [Hbb.out, List.take_add_one, hx, ← he0]
        simp only [Option.toList_some, List.contains_eq_any_beq, List.any_append, List.any_cons, List.any_nil, Bool.or_false]
        congr 1
        rw [Bool.eq_iff_iff]
        simp only [beq_iff_eq]
        exact eq_comm)
      have g5 : decide ((j : Int) < (z : Int)) = true := decide_eq_true (by omega)
      have g6 : decide (x < 0) = false := decide_eq_false (by omega)
      have g7 : decide ((n : Int) ≤ x) = false := decide_eq_false (by omega)
      have hz15 := Hz15.out
      clear hx0 hx1
      cases j with
      | zero =>
        obtain ⟨g, o, rfl, q0⟩ := RdZ.cell (RdA.keep HRf.out HS.out) hx
        rw [Nat.add_zero] at q0
        clear hx
        cases bb
        all_goals
          go_wp2_with fail
          go_quiet (fail)
          go_wp2_with fail
          go_roundw
          case rel => exact ⟨1, _, by omega, rfl, by go_num, by first | exact Hnx | (rw [Bool.true_or] at Hnx; exact Hnx) | (rw [Bool.false_or] at Hnx; exact Hnx), Lib.hid (Stp.drewN HS.out _)⟩
          case measure => simp [intOf]; omega
      | succ jj =>
        obtain ⟨u, hu⟩ : ∃ u, X[jj]? = some u := ⟨_, List.getElem?_eq_getElem (by rw [Hz.out]; omega)⟩
        have hup := find_up (ts := ts) (name := name) (n := i) (by rw [HX.out]; exact hu) (by rw [HX.out]; exact hx)
        obtain ⟨g, o, rfl, q0⟩ := RdZ.cell (RdA.keep HRf.out HS.out) hx
        obtain ⟨g2, o2, e2, q1⟩ := RdZ.cell (RdA.keep HRf.out HS.out) hu
        cases e2
        have g8 : decide (x ≤ u) = false := decide_eq_false (by omega)
        clear hx hu hup
        cases bb
        all_goals
          go_wp2_with fail
          go_quiet (fail)
          go_wp2_with fail
          go_roundw
          case rel => exact ⟨jj + 1 + 1, _, by omega, rfl, by go_num, by first | exact Hnx | (rw [Bool.true_or] at Hnx; exact Hnx) | (rw [Bool.false_or] at Hnx; exact Hnx), Lib.hid (Stp.drewN HS.out _)⟩
          case measure => simp [intOf]; omega
    · obtain rfl : j = z := by omega
      have g5 : decide ((j : Int) < (j : Int)) = false := decide_eq_false (by omega)
      have Hbb2 : Hid (bb = X.contains kk) := Lib.hid (by rw [Hbb.out, List.take_of_length_le (by rw [Hz.out]; exact Nat.le_refl _)])
      replace h0 := Lib.hid (Stp.trans h0.out HS.out)
      have HR0 := Lib.hid (RowS.nil wr wr wr.heap.size)
      have HaW := Lib.hid (Ha.out.keep h0.out)
      clear hlt hj Hbb HS
      go_upto_region 14 with (first
        | (at_builtin; refine Drive.wpList_app_onto3 rfl (.const (.slice none 0 0)) (.tmp 82) rfl Hn.out rfl rfl HR0.out HaW.out (Stp.refl wr) (by have := H15.out; simp only [List.length_nil]; omega) (Nat.le_refl _) ?_; intro v1 w1 hR1 hg1; have H1 := Lib.hid (HR0.out.stp (Stp.refl wr) (Nat.le_refl _) hg1); rw [List.nil_append] at hR1; have HR1 := Lib.hid hR1; clear hR1 hg1)
        | (at_builtin; refine Drive.wpList_app_onto3 rfl (.tmp 83) (.tmp 84) rfl Hn.out rfl rfl HR1.out HaW.out H1.out (by have := Hn15.out; rw [Hn.out]; omega) H1.out.size ?_; intro v2 w2 hR2 hg2; have H2 := Lib.hid (HR1.out.stp H1.out (Nat.le_refl _) hg2); obtain ⟨A2, c2, e2, hr2⟩ := hR2.rd H2.out; rw [HL2.out] at e2; subst e2; have HR2 := Lib.hid hr2; clear hR2 hg2 hr2)
        | (go_at_call 10; (with_reducible refine (HI.out.find (ts ++ ts) n2 HL2.out H30.out Hfc2.out name _ rfl Hnm.out i Hi0.out Hi1.out X2 HX2.out z2 Hz2.out A2 c2 _ HR2.out (HI.out.keep HT.out (Stp.trans h0.out H2.out))).mono ?_); rintro e w3 ⟨B3, d3, rfl, -, hs⟩; replace h0 := Lib.hid (Stp.trans h0.out (Stp.trans H2.out hs)); clear hs))
      have hj15 := Hz15.out
      have gt : ((z2 : Int) == 2 * (j : Int)) = true := by
        rw [beq_iff_eq]
        have := Htw.out
        omega
      by_cases hk : 0 ≤ kk ∧ kk < (n : Int)
      · obtain ⟨q, rfl⟩ : ∃ q : Nat, kk = (q : Int) := ⟨kk.toNat, by omega⟩
        obtain ⟨t, ht⟩ : ∃ t, ts[q]? = some t := ⟨_, List.getElem?_eq_getElem (by rw [Hn.out]; omega)⟩
        obtain ⟨bt, ot, At, kt, rfl, c0, c1, c2', rt⟩ := (Ha.out.keep h0.out).at_ ht
        have hin := find_in (ts := ts) (name := name) (n := i) ht
        rw [HX.out, ← Hbb2.out] at hin
        obtain ⟨tc0, tl, tm⟩ := t
        obtain ⟨y, hy⟩ : ∃ y, tl.length = y := ⟨_, rfl⟩
        obtain ⟨x0, m0, e0, hf⟩ : ∃ x0 m0 e0, whoT ⟨tc0, tl, tm⟩ = (x0, m0, e0) := ⟨_, _, _, rfl⟩
        dsimp only at c0 c1 c2' rt
        rw [hy] at c1
        rw [isT, hf] at hin
        obtain ⟨b1, k1⟩ : ∃ b, (e0 == 0) = b := ⟨_, rfl⟩
        obtain ⟨b2, k2⟩ : ∃ b, (x0 == name) = b := ⟨_, rfl⟩
        obtain ⟨b3, k3⟩ : ∃ b, (m0 == i) = b := ⟨_, rfl⟩
        have hin2 : bb = (b1 && (b2 && b3)) := by
          rw [hin, ← k1, ← k2, ← k3, Bool.eq_iff_iff]
          simp only [decide_eq_true_eq, Prod.mk.injEq, Bool.and_eq_true, beq_iff_eq]
          constructor
          · rintro ⟨a, b, c⟩
            exact ⟨c, a, b⟩
          · rintro ⟨c, a, b⟩
            exact ⟨a, b, c⟩
        have Hft := Lib.hid (Hfc.out _ (List.mem_of_getElem? ht))
        have Hy := Lib.hid hy
        have Hf := Lib.hid hf
        have HRt := Lib.hid rt
        have g1 : decide ((q : Int) < 0) = false := decide_eq_false (by omega)
        have g2 : decide ((n : Int) ≤ (q : Int)) = false := decide_eq_false (by omega)
        have g3 : ¬ n ≤ q := by omega
        have g4 : q < n := by omega
        clear ht hy hf rt hin hk g5
        subst hin2
        cases b1 <;> cases b2 <;> cases b3
        all_goals
          go_wp2_with (go_at_call 12; (with_reducible refine (HI.out.who tc0 tl tm y Hft.out Hy.out x0 m0 e0 Hf.out At kt _ HRt.out (HI.out.keep HT.out h0.out)).mono ?_); rintro e wf ⟨rfl, hs⟩; have HE := Lib.hid (Stp.trans h0.out hs); clear hs c0 c1 c2')
          go_ret
          exact ⟨by simp_all, HE.out⟩
      · have key : decide (kk < 0) = true ∨ (decide (kk < 0) = false ∧ decide ((n : Int) ≤ kk) = true) := by
          by_cases h : kk < 0
          · exact .inl (decide_eq_true h)
          · exact .inr ⟨decide_eq_false h, decide_eq_true (by omega)⟩
        clear hk
        rcases key with k1 | ⟨k1, k2⟩
        all_goals
          go_wp2_with fail
          go_ret
          exact ⟨by simp_all, h0.out⟩
theorem finds_walk {Tb : World → Prop} (I : CheckI Tb) (ts : List Tp) (n : Nat) (hn : ts.length = n) (hn9 : n < 9223372036854775808) (hts : ∀ t ∈ ts, SmallT t) (A : Option Addr) (c : Nat) (name : List UInt8) (hname : name.length ≤ 9223372036854775807) (i : Int) (hi0 : -9223372036854775808 ≤ i) (hi1 : i < 9223372036854775808) (kk : Int) (w : World) (ha : RdS w A c ts) (htab : Tb w) :
    Calls Tryz.prog 4 #[.slice A n c, .string ⟨name.toArray⟩, .int .i64 i, .int .i64 kk] w fun e w' => e = .returned (.bool true) ∧ Stp w w' := by
  by_cases h : fewCB ts = false ∨ decide ((200 : Int) < (name.length : Int)) = true
  · exact finds_out I ts n hn hn9 hts A c name hname i hi0 hi1 kk w ha htab h
  · rw [not_or] at h
    exact finds_in I ts n hn hn9 hts A c name hname i hi0 hi1 kk w ha htab (by simpa using h.1) (by simpa using h.2)
theorem finds_any {Tb : World → Prop} (I : CheckI Tb) (ts : List Tp) (n : Nat) (hn : ts.length = n) (hn9 : n < 9223372036854775808) (hts : ∀ t ∈ ts, SmallT t) (A : Option Addr) (c : Nat) (a : ByteArray) (hsz : a.size ≤ maxLen) (i : Int) (hi : -9223372036854775808 ≤ i ∧ i ≤ 9223372036854775807) (kk : Int) (w : World) (ha : RdS w A c ts) (htab : Tb w) :
    Calls Tryz.prog 4 #[.slice A n c, .string a, .int .i64 i, .int .i64 kk] w fun e w' => e = .returned (.bool true) ∧ Stp w w' := by
  obtain ⟨name, rfl, hname⟩ := str_form a hsz
  exact finds_walk I ts n hn hn9 hts A c name hname i hi.1 (by omega) kk w ha htab
end Go.Proofs.YtllnnlmhbmladaaGreatDoor.Check
