/-
  The law CheckNext, walked over the contracts: no statement is proved here.
-/
import Derived.Test.YtllnnlmhbmladaaGreatDoorCheckI
import Derived.Deep.RegionWith
import Derived.Deep.RegionLaw
import Derived.BigQuiet
namespace Go.Proofs.YtllnnlmhbmladaaGreatDoor.Check
open Go.Sort Go.RowKit Go.Proofs.YtllnnlmhbmladaaGreatDoor.Str Go.Proofs.YtllnnlmhbmladaaGreatDoor.Base Go.Proofs.YtllnnlmhbmladaaGreatDoor.Node Go.Proofs.YtllnnlmhbmladaaGreatDoor.VolM Go.Proofs.YtllnnlmhbmladaaGreatDoor.Vol Go.Proofs.YtllnnlmhbmladaaGreatDoor.StripM Go.Proofs.YtllnnlmhbmladaaGreatDoor.CheckM
open Go.Proofs.YtllnnlmhbmladaaGreatDoor.TapeM (Tp)
open Go.Proofs.YtllnnlmhbmladaaGreatDoor.Tape (FewT SmallT tc tcs tcells)
open Go.Proofs.YtllnnlmhbmladaaGreatDoor.Drive (RdS RowS)
open Go.Proofs.YtllnnlmhbmladaaGreatDoor.Parse (St zeroS)
set_option linter.unusedVariables false

set_option maxRecDepth 100000 in
set_option maxHeartbeats 4000000 in
theorem next_out {Tb : World → Prop} (I : CheckI Tb) (s : St) (hs : Parse.SmallS s) (name : List UInt8) (hname : name.length ≤ 9223372036854775807) (i : Int) (hi0 : -9223372036854775808 ≤ i) (hi1 : i < 9223372036854775808) (ts : List Tp) (n : Nat) (hn : ts.length = n) (hn9 : n < 9223372036854775808) (hts : ∀ t ∈ ts, SmallT t) (A : Option Addr) (c : Nat) (kk : Int) (w : World) (ha : RdS w A c ts) (htab : Tb w)
    (h : Parse.fewS s = false ∨ fewCB ts = false ∨ decide ((200 : Int) < (name.length : Int)) = true) :
    Calls Tryz.prog 3 #[Parse.sv s, .string ⟨name.toArray⟩, .int .i64 i, .slice A n c, .int .i64 kk] w fun e w' => e = .returned (.bool true) ∧ Stp w w' := by
  have h0 := Lib.hid (Stp.alloc (Stp.refl w) (.cells (Parse.scells s) 25))
  have Hb := Lib.hid (Blk.new w 25 (Parse.scells s))
  obtain ⟨q0, q1, q2, q3, q4, q5, q6, q7, q8, q9, q10, q11, q12, q13⟩ := Parse.st_cells Hb.out
  have HI := Lib.hid I
  have HT := Lib.hid htab
  have Hn := Lib.hid hn
  have Hs := Lib.hid hts
  have Ha := Lib.hid ha
  obtain ⟨f1, F1'⟩ : ∃ b, Parse.fewS s = b := ⟨_, rfl⟩
  obtain ⟨f2, F2'⟩ : ∃ b, fewCB ts = b := ⟨_, rfl⟩
  obtain ⟨f3, F3⟩ : ∃ b, decide ((200 : Int) < (name.length : Int)) = b := ⟨_, rfl⟩
  rw [F1', F2', F3] at h
  have F1 := Lib.hid F1'
  have F2 := Lib.hid F2'
  have key : (f1 = false) ∨ (f1 = true ∧ f2 = false) ∨ (f1 = true ∧ f2 = true ∧ f3 = true) := by
    cases f1 <;> cases f2 <;> cases f3 <;> simp at h ⊢
  clear I htab hn hts ha hs h F1' F2' hname
  rcases key with rfl | ⟨rfl, rfl⟩ | ⟨rfl, rfl, rfl⟩
  all_goals
    go_enter Tryz.func3, Tryz.ntmps3
    go_wp2_with (first
      | (go_at_call 6; (refine (awake_s HI.out _ (HI.out.keep HT.out h0.out)).mono ?_); rintro e wn ⟨rfl, hs⟩; replace h0 := Lib.hid (Stp.trans h0.out hs); replace Hb := Lib.hid (Hb.out.keep hs Hb.out.lt); clear hs q0 q1 q2 q3 q4 q5 q6 q7 q8 q9 q10 q11 q12 q13; obtain ⟨q0, q1, q2, q3, q4, q5, q6, q7, q8, q9, q10, q11, q12, q13⟩ := Parse.st_cells Hb.out)
      | (go_at_call 7; (with_reducible refine (Parse.fews_s s _).mono ?_); rintro e wn ⟨rfl, hs⟩; rw [F1.out]; replace h0 := Lib.hid (Stp.trans h0.out hs); replace Hb := Lib.hid (Hb.out.keep hs Hb.out.lt); clear hs q0 q1 q2 q3 q4 q5 q6 q7 q8 q9 q10 q11 q12 q13; obtain ⟨q0, q1, q2, q3, q4, q5, q6, q7, q8, q9, q10, q11, q12, q13⟩ := Parse.st_cells Hb.out)
      | (go_at_call 8; (with_reducible refine (fewts_s ts n Hn.out hn9 Hs.out _ F2.out A c _ (Ha.out.keep h0.out)).mono ?_); rintro e wn ⟨rfl, hs⟩; replace h0 := Lib.hid (Stp.trans h0.out hs); replace Hb := Lib.hid (Hb.out.keep hs Hb.out.lt); clear hs q0 q1 q2 q3 q4 q5 q6 q7 q8 q9 q10 q11 q12 q13; obtain ⟨q0, q1, q2, q3, q4, q5, q6, q7, q8, q9, q10, q11, q12, q13⟩ := Parse.st_cells Hb.out))
    go_ret
    exact ⟨rfl, h0.out⟩
set_option maxRecDepth 100000 in
set_option maxHeartbeats 8000000 in
theorem next_in {Tb : World → Prop} (I : CheckI Tb) (s : St) (hs : Parse.SmallS s) (name : List UInt8) (hname : name.length ≤ 9223372036854775807) (i : Int) (hi0 : -9223372036854775808 ≤ i) (hi1 : i < 9223372036854775808) (ts : List Tp) (n : Nat) (hn : ts.length = n) (hn9 : n < 9223372036854775808) (hts : ∀ t ∈ ts, SmallT t) (A : Option Addr) (c : Nat) (kk : Int) (w : World) (ha : RdS w A c ts) (htab : Tb w)
    (f1 : Parse.fewS s = true) (f2 : fewCB ts = true) (f3 : decide ((200 : Int) < (name.length : Int)) = false) :
    Calls Tryz.prog 3 #[Parse.sv s, .string ⟨name.toArray⟩, .int .i64 i, .slice A n c, .int .i64 kk] w fun e w' => e = .returned (.bool true) ∧ Stp w w' := by
  obtain ⟨n15, fall⟩ := fewCB_iff.1 f2
  rw [hn] at n15
  have hfc : ∀ t ∈ ts, FewC t := fun t ht => few_c (hts t ht) (fall t ht)
  obtain ⟨X, hX⟩ : ∃ X, findT ts name i = X := ⟨_, rfl⟩
  obtain ⟨z, hz⟩ : ∃ z, X.length = z := ⟨_, rfl⟩
  obtain ⟨p, hp⟩ : ∃ p, nextT s name i ts = p := ⟨_, rfl⟩
  have hz15 : z ≤ 15 := by have := find_len ts name i; rw [hX, hz, hn] at this; omega
  obtain ⟨hp1, hp2⟩ := next_range s name i ts
  rw [hp, hn] at hp2
  rw [hp] at hp1
  obtain ⟨b0, hb0⟩ : ∃ b, (p == -1) = b := ⟨_, rfl⟩
  have hin := CheckM.next_in s name i ts
  rw [hp, hX, hb0] at hin
  have h0 := Lib.hid (Stp.alloc (Stp.refl w) (.cells (Parse.scells s) 25))
  have Hb := Lib.hid (Blk.new w 25 (Parse.scells s))
  obtain ⟨q0, q1, q2, q3, q4, q5, q6, q7, q8, q9, q10, q11, q12, q13⟩ := Parse.st_cells Hb.out
  have HI := Lib.hid I
  have HT := Lib.hid htab
  have Hn := Lib.hid hn
  have Hs := Lib.hid hts
  have Ha := Lib.hid ha
  have F1 := Lib.hid f1
  have F2 := Lib.hid f2
  have Hss := Lib.hid hs
  have Hfc := Lib.hid hfc
  have HX := Lib.hid hX
  have Hz := Lib.hid hz
  have Hp := Lib.hid hp
  have Hin := Lib.hid hin
  have Hi0 := Lib.hid hi0
  have Hi1 := Lib.hid hi1
  have Hnm := Lib.hid hname
  have H15 : Hid (n ≤ 1000) := Lib.hid (by omega)
  have Hz15 := Lib.hid hz15
  have g1 : decide (p < -1) = false := decide_eq_false (by omega)
  have g2 : decide ((n : Int) ≤ p) = false := decide_eq_false (by omega)
  clear I htab hn hts ha hs f1 f2 hfc fall hX hz hp hin hi0 hi1 hname hz15 hp1 hp2
  go_enter Tryz.func3, Tryz.ntmps3
  go_upto_region 11 with (first
    | (go_at_call 6; (refine (awake_s HI.out _ (HI.out.keep HT.out h0.out)).mono ?_); rintro e wn ⟨rfl, hs⟩; replace h0 := Lib.hid (Stp.trans h0.out hs); replace Hb := Lib.hid (Hb.out.keep hs Hb.out.lt); clear hs q0 q1 q2 q3 q4 q5 q6 q7 q8 q9 q10 q11 q12 q13; obtain ⟨q0, q1, q2, q3, q4, q5, q6, q7, q8, q9, q10, q11, q12, q13⟩ := Parse.st_cells Hb.out)
    | (go_at_call 7; (with_reducible refine (Parse.fews_s s _).mono ?_); rintro e wn ⟨rfl, hs⟩; rw [F1.out]; replace h0 := Lib.hid (Stp.trans h0.out hs); replace Hb := Lib.hid (Hb.out.keep hs Hb.out.lt); clear hs q0 q1 q2 q3 q4 q5 q6 q7 q8 q9 q10 q11 q12 q13; obtain ⟨q0, q1, q2, q3, q4, q5, q6, q7, q8, q9, q10, q11, q12, q13⟩ := Parse.st_cells Hb.out)
    | (go_at_call 8; (with_reducible refine (fewts_s ts n Hn.out hn9 Hs.out _ F2.out A c _ (Ha.out.keep h0.out)).mono ?_); rintro e wn ⟨rfl, hs⟩; replace h0 := Lib.hid (Stp.trans h0.out hs); replace Hb := Lib.hid (Hb.out.keep hs Hb.out.lt); clear hs q0 q1 q2 q3 q4 q5 q6 q7 q8 q9 q10 q11 q12 q13; obtain ⟨q0, q1, q2, q3, q4, q5, q6, q7, q8, q9, q10, q11, q12, q13⟩ := Parse.st_cells Hb.out)
    | (go_at_call 9; (with_reducible refine (HI.out.next s _ rfl Hss.out name _ rfl Hnm.out i Hi0.out Hi1.out ts n Hn.out H15.out Hfc.out p Hp.out A c _ (Ha.out.keep h0.out) (HI.out.keep HT.out h0.out)).mono ?_); rintro e wn ⟨rfl, hs⟩; replace h0 := Lib.hid (Stp.trans h0.out hs); replace Hb := Lib.hid (Hb.out.keep hs Hb.out.lt); clear hs q0 q1 q2 q3 q4 q5 q6 q7 q8 q9 q10 q11 q12 q13; obtain ⟨q0, q1, q2, q3, q4, q5, q6, q7, q8, q9, q10, q11, q12, q13⟩ := Parse.st_cells Hb.out)
    | (go_at_call 10; (with_reducible refine (HI.out.find ts n Hn.out H15.out Hfc.out name _ rfl Hnm.out i Hi0.out Hi1.out X HX.out z Hz.out A c _ (Ha.out.keep h0.out) (HI.out.keep HT.out h0.out)).mono ?_); rintro e wn ⟨Bf, df, rfl, hr, hs⟩; have HRf := Lib.hid hr; replace h0 := Lib.hid (Stp.trans h0.out hs); clear hr; replace Hb := Lib.hid (Hb.out.keep hs Hb.out.lt); clear hs q0 q1 q2 q3 q4 q5 q6 q7 q8 q9 q10 q11 q12 q13; obtain ⟨q0, q1, q2, q3, q4, q5, q6, q7, q8, q9, q10, q11, q12, q13⟩ := Parse.st_cells Hb.out))
  clear q0 q1 q2 q3 q4 q5 q6 q7 q8 q9 q10 q11 q12 q13
  go_wp2_with fail
  go_loopw [15, 17] (fun inn jv wr => ∃ (j : Nat) (bb : Bool), j ≤ z ∧ inn = .bool bb ∧ jv = .int .i64 (j : Int) ∧ Hid (bb = (b0 || (X.take j).contains p)) ∧ Hid (Stp wn wr)) (fun _ jv _ => z - (intOf jv).toNat)
  case atStart => exact ⟨0, b0, by omega, rfl, rfl, Lib.hid (by simp), Lib.hid (Stp.refl _)⟩
  case round =>
    obtain ⟨j, bb, hj, rfl, rfl, Hbb, HS⟩ := hrel
    by_cases hlt : j < z
    · obtain ⟨x, hx⟩ : ∃ x, X[j]? = some x := ⟨_, List.getElem?_eq_getElem (by rw [Hz.out]; exact hlt)⟩
      obtain ⟨g, o, rfl, q0⟩ := RdZ.cell (RdA.keep HRf.out HS.out) hx
      obtain ⟨e0, he0⟩ : ∃ b, (x == p) = b := ⟨_, rfl⟩
      have Hnx : Hid ((bb || e0) = (b0 || (X.take (j + 1)).contains p)) := Lib.hid (by
        rw [Hbb.out, List.take_add_one, hx, ← he0, Bool.or_assoc]
        congr 1
        simp only [Option.toList_some, List.contains_eq_any_beq, List.any_append, List.any_cons, List.any_nil, Bool.or_false]
        congr 1
        rw [Bool.eq_iff_iff]
        simp only [beq_iff_eq]
        exact eq_comm)
      have g5 : decide ((j : Int) < (z : Int)) = true := decide_eq_true (by omega)
      have hz15 := Hz15.out
      clear hx
      cases bb
      all_goals
        go_wp2_with fail
        go_roundw
        case rel => exact ⟨j + 1, _, by omega, rfl, by go_num, by first | exact Hnx | (rw [Bool.true_or] at Hnx; exact Hnx) | (rw [Bool.false_or] at Hnx; exact Hnx), HS⟩
        case measure => simp [intOf]; omega
    · obtain rfl : j = z := by omega
      have hbt : bb = true := by
        rw [Hbb.out, List.take_of_length_le (by rw [Hz.out]; exact Nat.le_refl _)]
        exact Hin.out
      subst hbt
      have g5 : decide ((j : Int) < (j : Int)) = false := decide_eq_false (by omega)
      replace h0 := Lib.hid (Stp.trans h0.out HS.out)
      replace Hb := Lib.hid (Hb.out.keep HS.out Hb.out.lt)
      by_cases hk : 0 ≤ kk ∧ kk < (n : Int)
      · obtain ⟨q, rfl⟩ : ∃ q : Nat, kk = (q : Int) := ⟨kk.toNat, by omega⟩
        obtain ⟨t, ht⟩ : ∃ t, ts[q]? = some t := ⟨_, List.getElem?_eq_getElem (by rw [Hn.out]; omega)⟩
        obtain ⟨bt, ot, At, kt, rfl, c0, c1, c2, rt⟩ := (Ha.out.keep h0.out).at_ ht
        obtain ⟨tc0, tl, tm⟩ := t
        obtain ⟨y, hy⟩ : ∃ y, tl.length = y := ⟨_, rfl⟩
        obtain ⟨k0, e0, hf⟩ : ∃ k0 e0, fitsT s name i ⟨tc0, tl, tm⟩ = (k0, e0) := ⟨_, _, rfl⟩
        have hna := next_at s name i ts ht
        rw [Hp.out, hf] at hna
        dsimp only at hna c0 c1 c2 rt
        rw [hy] at c1
        have Hft := Lib.hid (Hfc.out _ (List.mem_of_getElem? ht))
        have Hy := Lib.hid hy
        have Hf := Lib.hid hf
        have HRt := Lib.hid rt
        have k1 : decide ((q : Int) < 0) = false := decide_eq_false (by omega)
        have k2 : decide ((n : Int) ≤ (q : Int)) = false := decide_eq_false (by omega)
        have k3 : ¬ n ≤ q := by omega
        have k4 : q < n := by omega
        obtain ⟨d1, hd1⟩ : ∃ b, (e0 != 0) = b := ⟨_, rfl⟩
        obtain ⟨d0, hd0⟩ : ∃ b, (e0 == 0) = b := ⟨_, rfl⟩
        obtain ⟨d2, hd2⟩ : ∃ b, decide (0 ≤ p) = b := ⟨_, rfl⟩
        obtain ⟨d3, hd3⟩ : ∃ b, decide (p ≤ (q : Int)) = b := ⟨_, rfl⟩
        obtain ⟨d4, hd4⟩ : ∃ b, ((q : Int) != p) = b := ⟨_, rfl⟩
        have key : (d1 = true ∧ d4 = true) ∨ (d1 = false ∧ d0 = true ∧ d2 = true ∧ d3 = true) := by
          by_cases he : e0 = 0
          · right
            have := hna.1 he
            refine ⟨by rw [← hd1, he]; rfl, by rw [← hd0, he]; rfl, by rw [← hd2]; exact decide_eq_true this.1, by rw [← hd3]; exact decide_eq_true this.2⟩
          · left
            refine ⟨by rw [← hd1]; simpa using he, ?_⟩
            rw [← hd4]
            simp only [bne_iff_ne]
            exact fun e => he (hna.2 e)
        clear ht hy hf rt hna hk g5 hlt hj
        obtain ⟨q0, q1, q2, q3, q4, q5, q6, q7, q8, q9, q10, q11, q12, q13⟩ := Parse.st_cells Hb.out
        have X1 := Lib.hid (show Stp wr wr.drew from Stp.drewN (Stp.refl wr) 1)
        have C := Lib.hid (HI.out.fits s _ rfl Hss.out name _ rfl Hnm.out i Hi0.out Hi1.out tc0 tl tm y Hft.out Hy.out k0 e0 Hf.out At kt wr.drew (HRt.out.keep X1.out) (HI.out.keep HT.out (Stp.trans h0.out X1.out)))
        go_upto_region 17 with fail
        go_region_with (go_at_call 11; (with_reducible refine C.out.mono ?_); rintro e wf ⟨rfl, hs⟩; have HE := Lib.hid (Stp.trans h0.out (Stp.trans X1.out hs)); clear hs q0 q1 q2 q3 q4 q5 q6 q7 q8 q9 q10 q11 q12 q13 c0 c1 c2)
        all_goals
          rcases key with ⟨rfl, rfl⟩ | ⟨rfl, rfl, rfl, rfl⟩
        all_goals
          go_wp2_with fail
        all_goals go_ret
        all_goals exact ⟨by simp_all, HE.out⟩
      · have key : decide (kk < 0) = true ∨ (decide (kk < 0) = false ∧ decide ((n : Int) ≤ kk) = true) := by
          by_cases h : kk < 0
          · exact .inl (decide_eq_true h)
          · exact .inr ⟨decide_eq_false h, decide_eq_true (by omega)⟩
        clear hk
        rcases key with k1 | ⟨k1, k2⟩
        all_goals
          go_wp2_with fail
          go_ret
          exact ⟨rfl, h0.out⟩
theorem next_walk {Tb : World → Prop} (I : CheckI Tb) (s : St) (hs : Parse.SmallS s) (name : List UInt8) (hname : name.length ≤ 9223372036854775807) (i : Int) (hi0 : -9223372036854775808 ≤ i) (hi1 : i < 9223372036854775808) (ts : List Tp) (n : Nat) (hn : ts.length = n) (hn9 : n < 9223372036854775808) (hts : ∀ t ∈ ts, SmallT t) (A : Option Addr) (c : Nat) (kk : Int) (w : World) (ha : RdS w A c ts) (htab : Tb w) :
    Calls Tryz.prog 3 #[Parse.sv s, .string ⟨name.toArray⟩, .int .i64 i, .slice A n c, .int .i64 kk] w fun e w' => e = .returned (.bool true) ∧ Stp w w' := by
  by_cases h : Parse.fewS s = false ∨ fewCB ts = false ∨ decide ((200 : Int) < (name.length : Int)) = true
  · exact next_out I s hs name hname i hi0 hi1 ts n hn hn9 hts A c kk w ha htab h
  · rw [not_or, not_or] at h
    exact next_in I s hs name hname i hi0 hi1 ts n hn hn9 hts A c kk w ha htab (by simpa using h.1) (by simpa using h.2.1) (by simpa using h.2.2)
theorem next_any {Tb : World → Prop} (I : CheckI Tb) (s : St) (hs : Parse.SmallS s) (a : ByteArray) (hsz : a.size ≤ maxLen) (i : Int) (hi : -9223372036854775808 ≤ i ∧ i ≤ 9223372036854775807) (ts : List Tp) (n : Nat) (hn : ts.length = n) (hn9 : n < 9223372036854775808) (hts : ∀ t ∈ ts, SmallT t) (A : Option Addr) (c : Nat) (kk : Int) (w : World) (ha : RdS w A c ts) (htab : Tb w) :
    Calls Tryz.prog 3 #[Parse.sv s, .string a, .int .i64 i, .slice A n c, .int .i64 kk] w fun e w' => e = .returned (.bool true) ∧ Stp w w' := by
  obtain ⟨name, rfl, hname⟩ := str_form a hsz
  exact next_walk I s hs name hname i hi.1 (by omega) ts n hn hn9 hts A c kk w ha htab
end Go.Proofs.YtllnnlmhbmladaaGreatDoor.Check
