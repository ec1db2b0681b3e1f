/-
  What the walks of package check's laws ask of the code, and what they share: no statement is proved here.
-/
import Derived.Test.YtllnnlmhbmladaaGreatDoorCheckM
import Derived.Test.YtllnnlmhbmladaaGreatDoorVolI
import Derived.Test.YtllnnlmhbmladaaGreatDoorParseI
import Derived.Test.YtllnnlmhbmladaaGreatDoorTapeI
import Derived.Deep.RegionWith
import Derived.Deep.RegionLaw
namespace Go.Proofs.YtllnnlmhbmladaaGreatDoor.Check
open Go.Sort Go.RowKit Go.Proofs.YtllnnlmhbmladaaGreatDoor.Str Go.Proofs.YtllnnlmhbmladaaGreatDoor.Base Go.Proofs.YtllnnlmhbmladaaGreatDoor.Node Go.Proofs.YtllnnlmhbmladaaGreatDoor.Head Go.Proofs.YtllnnlmhbmladaaGreatDoor.Long Go.Proofs.YtllnnlmhbmladaaGreatDoor.Entry Go.Proofs.YtllnnlmhbmladaaGreatDoor.LabelM Go.Proofs.YtllnnlmhbmladaaGreatDoor.ContM Go.Proofs.YtllnnlmhbmladaaGreatDoor.Stream Go.Proofs.YtllnnlmhbmladaaGreatDoor.VolM Go.Proofs.YtllnnlmhbmladaaGreatDoor.Vol Go.Proofs.YtllnnlmhbmladaaGreatDoor.StripM Go.Proofs.YtllnnlmhbmladaaGreatDoor.CheckM
open Go.Proofs.YtllnnlmhbmladaaGreatDoor.Tree (oneB mayT fewT)
open Go.Proofs.YtllnnlmhbmladaaGreatDoor.TapeM (Tp)
open Go.Proofs.YtllnnlmhbmladaaGreatDoor.RecM (blocksV mayR blocksB)
open Go.Proofs.YtllnnlmhbmladaaGreatDoor.Tape (FewT SmallT tc tcs tcells)
open Go.Proofs.YtllnnlmhbmladaaGreatDoor.Drive (RdS RowS)
open Go.Proofs.YtllnnlmhbmladaaGreatDoor.Parse (St zeroS)
set_option linter.unusedVariables false
abbrev LL := List (List UInt8)

/-- A tape that is small enough. -/
structure FewC (t : Tp) : Prop where
  few : FewT t
  blocks : (blocksV t.rows).length ≤ 1000
/-- The contracts of the calls; what they ask of the world (Go's tables), Tb, lasts. -/
structure CheckI (Tb : World → Prop) : Prop where
  keep : ∀ {w w' : World}, Tb w → Stp w w' → Tb w'
  split : ∀ (t : List Nd) (m : Nat), t.length = m → m ≤ 1000 → (∀ n ∈ t, SmallN n) → ∀ (s : Sett) (A : Option Addr) (k : Nat) (v : Value), v = Vol.sv s A k → Vol.SmallS s → ∀ (Q : List LL) (E : Int), splitV t s = (Q, E) → ∀ (z : Nat), Q.length = z →
    ∀ (T : Option Addr) (ct : Nat) (w : World), RdN w T ct t → RdZ w A k s.caps → Tb w →
    Calls Tryz.prog 15 #[.slice T m ct, v] w fun e w' => ∃ B d, e = .returned (.tuple #[.slice B z d, .int .i64 E]) ∧ RdV w' B d Q ∧ Stp w w'
  blocks : ∀ (c : Int) (ls : LL) (m : Bool) (n : Nat), FewC ⟨c, ls, m⟩ → ls.length = n → ∀ (V : LL) (E : Int), blocksT ⟨c, ls, m⟩ = (V, E) → ∀ (z : Nat), V.length = z → ∀ (A : Option Addr) (k : Nat) (w : World), RdL w A k ls →
    Calls Tryz.prog 14 #[tc c A n k m] w fun e w' => ∃ B d, e = .returned (.tuple #[.slice B z d, .int .i64 E]) ∧ RdL w' B d V ∧ Stp w w'
  who : ∀ (c : Int) (ls : LL) (m : Bool) (n : Nat), FewC ⟨c, ls, m⟩ → ls.length = n → ∀ (x : List UInt8) (i e0 : Int), whoT ⟨c, ls, m⟩ = (x, i, e0) → ∀ (A : Option Addr) (k : Nat) (w : World), RdL w A k ls → Tb w →
    Calls Tryz.prog 12 #[tc c A n k m] w fun e w' => e = .returned (.tuple #[.string ⟨x.toArray⟩, .int .i64 i, .int .i64 e0]) ∧ Stp w w'
  fits : ∀ (s : St) (v : Value), v = Parse.sv s → Parse.SmallS s → ∀ (name : List UInt8) (y : Nat), name.length = y → y ≤ 9223372036854775807 → ∀ (i : Int), -9223372036854775808 ≤ i → i < 9223372036854775808 →
    ∀ (c : Int) (ls : LL) (m : Bool) (n : Nat), FewC ⟨c, ls, m⟩ → ls.length = n → ∀ (k0 e0 : Int), fitsT s name i ⟨c, ls, m⟩ = (k0, e0) → ∀ (A : Option Addr) (k : Nat) (w : World), RdL w A k ls → Tb w →
    Calls Tryz.prog 11 #[v, .string ⟨name.toArray⟩, .int .i64 i, tc c A n k m] w fun e w' => e = .returned (.tuple #[.int .i64 k0, .int .i64 e0]) ∧ Stp w w'
  find : ∀ (ts : List Tp) (m : Nat), ts.length = m → m ≤ 1000 → (∀ t ∈ ts, FewC t) → ∀ (name : List UInt8) (y : Nat), name.length = y → y ≤ 9223372036854775807 → ∀ (i : Int), -9223372036854775808 ≤ i → i < 9223372036854775808 →
    ∀ (X : List Int), findT ts name i = X → ∀ (z : Nat), X.length = z → ∀ (A : Option Addr) (c : Nat) (w : World), RdS w A c ts → Tb w →
    Calls Tryz.prog 10 #[.slice A m c, .string ⟨name.toArray⟩, .int .i64 i] w fun e w' => ∃ B d, e = .returned (.slice B z d) ∧ RdZ w' B d X ∧ Stp w w'
  next : ∀ (s : St) (v : Value), v = Parse.sv s → Parse.SmallS s → ∀ (name : List UInt8) (y : Nat), name.length = y → y ≤ 9223372036854775807 → ∀ (i : Int), -9223372036854775808 ≤ i → i < 9223372036854775808 →
    ∀ (ts : List Tp) (m : Nat), ts.length = m → m ≤ 1000 → (∀ t ∈ ts, FewC t) → ∀ (x : Int), nextT s name i ts = x → ∀ (A : Option Addr) (c : Nat) (w : World), RdS w A c ts → Tb w →
    Calls Tryz.prog 9 #[v, .string ⟨name.toArray⟩, .int .i64 i, .slice A m c] w fun e w' => e = .returned (.int .i64 x) ∧ Stp w w'

/-! ### few tapes -/
theorem few_c {t : Tp} (hs : SmallT t) (h : Rec.fewR t.rows = true) : FewC t := by
  obtain ⟨⟨h1, h2⟩, h3⟩ := Rec.fewR_iff.1 h
  exact ⟨⟨hs.low, hs.high, by omega, fun l hl => by have := h3 l hl; omega⟩, blocks_few t (by omega)⟩
def fewCB (ts : List Tp) : Bool := decide (ts.length ≤ 15) && ts.all (fun t => Rec.fewR t.rows)
theorem fewCB_iff {ts : List Tp} : fewCB ts = true ↔ ts.length ≤ 15 ∧ ∀ t ∈ ts, Rec.fewR t.rows = true := by simp [fewCB]

/-! ### the chapter's example -/
def exC : Sett := ⟨[120], 1, [3]⟩
theorem exC_may : mayS exC = true := by decide
theorem exC_small : Vol.SmallS exC := by
  refine ⟨by decide, by decide, by decide, by decide, ?_⟩
  intro x hx
  simp [exC] at hx
  subst hx
  decide
theorem exC_begin : beginL [] exC 0 1 = [lblK [120] 1] := by
  rw [beginL, goesOn, if_neg (by rw [whereL]; decide)]
  rfl
theorem exC_split : ∃ V : LL, splitV [] exC = ([V], 0) ∧ V.length = 3 := by
  have ha : (allS []).length = 2 := by rw [all_nil]; rfl
  refine ⟨volV [] exC 0 0 3, ?_, ?_⟩
  · rw [splitV, if_pos (by rw [exC_may]; rfl), ha, volsG, ha, if_neg (by omega)]
    show (if (3 : Nat) ≤ (beginL [] exC 0 ((0 : Nat) + 1)).length then _ else _) = _
    rw [show (((0 : Nat) : Int) + 1) = 1 from rfl, exC_begin, if_neg (by simp)]
    rw [vols_over (by rw [ha]; show 2 ≤ 0 + (3 - 1); omega)]
    rfl
  · rw [volV, show (((0 : Nat) : Int) + 1) = 1 from rfl, exC_begin, ha, all_nil]
    rfl
theorem blocks_same {V : LL} (h : ∀ b ∈ V, b.length = 512) (hl : V.length ≤ 1000) : blocksB V = true ∧ blocksV V = V := by
  obtain ⟨h1, h2⟩ := RecM.ones (BlockM.mayV_iff.2 h) hl
  obtain ⟨h3, d, h4, h5, -⟩ := RecM.back h1
  rw [h2] at h3 h5
  obtain rfl : d = 0 := by omega
  refine ⟨h3, ?_⟩
  rw [h5, List.replicate_zero, List.append_nil]
theorem ex_check : ∃ V : LL, splitV [] exC = ([V], 0) ∧ V.length = 3 ∧ (∀ b ∈ V, b.length = 512) ∧ blocksT ⟨3, V, false⟩ = (V, 0) ∧ whoT ⟨3, V, false⟩ = ([120], 1, 0) ∧ fitsT zeroS [120] 1 ⟨3, V, false⟩ = (1, 0) := by
  obtain ⟨V, hV, h3⟩ := exC_split
  have ht : mayT [] = true := rfl
  obtain ⟨hp, h12, rest, hv, -⟩ := sinv_step ht exC_may (sinv_zero ht exC_may hV) (v := V) rfl
  have ho : oneV zeroS [120] 1 V = (1, 0) := by
    have := one_vol ht exC_may (pos := 0) (n := 0) hp h12 rest
    rw [show stA [] 0 = zeroS by rw [stA, List.take_zero, Parse.run_nil], ← hv] at this
    have e : (((0 : Nat) : Int) + 1) = 1 := rfl
    rw [e, exC_begin] at this
    exact this
  have h512 : ∀ b ∈ V, b.length = 512 := by
    have hm : (mayT [] && mayS exC) = true := by rw [exC_may]; rfl
    rw [Bool.and_eq_true] at hm
    have hc := chain_split hm.1 hm.2
    rw [hV] at hc
    obtain ⟨c, -, -, -, -, -, h6⟩ := chain_room hm.2 hc 0 V rfl
    exact BlockM.mayV_iff.1 h6
  obtain ⟨k1, k2⟩ := blocks_same h512 (by omega)
  have hmt : TapeM.mayT ⟨3, V, false⟩ = true := by
    refine TapeM.mayT_iff.2 ⟨by show (0 : Int) ≤ 3; decide, by show (3 : Int) ≤ 200; decide, by show ((V.length : Nat) : Int) ≤ 3; omega, RecM.blocksB_iff.1 k1⟩
  obtain ⟨b, r, e1, e2⟩ := one_has (s := zeroS) (name := [120]) (n := 1) (v := V) (by rw [ho])
  refine ⟨V, hV, h3, h512, ?_, ?_, ?_⟩
  · rw [CheckM.blocksT, if_pos hmt]
    show (blocksV V, (0 : Int)) = _
    rw [k2]
  · rw [whoT, if_pos hmt]
    show (match blocksV V with | [] => _ | b :: _ => getL b) = _
    rw [k2, e1]
    exact e2
  · rw [fitsT, if_pos hmt]
    show oneV zeroS [120] 1 (blocksV V) = _
    rw [k2, ho]

/-! ### FewTapes -/
set_option maxRecDepth 100000 in
set_option maxHeartbeats 2000000 in
theorem fewts_s (ts : List Tp) (n : Nat) (hn : ts.length = n) (hn9 : n < 9223372036854775808) (hs : ∀ t ∈ ts, SmallT t) (b : Bool) (hb : fewCB ts = b) (A : Option Addr) (k : Nat) (w : World) (ha : RdS w A k ts) :
    Calls Tryz.prog 8 #[.slice A n k] w fun e w' => e = .returned (.bool b) ∧ Stp w w' := by
  have Ha := Lib.hid ha
  have F := Lib.hid hs
  have Hn := Lib.hid hn
  have Hb := Lib.hid hb
  clear ha hs hn hb
  go_enter Tryz.func8, Tryz.ntmps8
  go_wp2_with fail
  go_loopw [3] (fun iv wr => ∃ j : Nat, j ≤ n ∧ j ≤ 16 ∧ iv = .int .i64 (j : Int) ∧ Hid (Stp w wr) ∧ Hid (∀ x ∈ ts.take j, Rec.fewR x.rows = true)) (fun iv _ => 17 - (intOf iv).toNat)
  case atStart => exact ⟨0, by omega, by omega, rfl, Lib.hid (Stp.refl _), Lib.hid (by simp)⟩
  case round =>
    obtain ⟨j, hj, hj6, rfl, HS, Hk⟩ := hrel
    by_cases hlt : j < n ∧ j ≤ 15
    · obtain ⟨t, ht1⟩ : ∃ t, ts[j]? = some t := ⟨_, List.getElem?_eq_getElem (by rw [Hn.out]; exact hlt.1)⟩
      obtain ⟨bb, oo, Aj, kj, rfl, c0, c1, c2, ra⟩ := (Ha.out.keep HS.out).at_ ht1
      have hst := F.out t (List.mem_of_getElem? ht1)
      obtain ⟨y, hy⟩ : ∃ y, t.rows.length = y := ⟨_, rfl⟩
      have hy9 : y < 9223372036854775808 := by rw [← hy]; exact hst.few
      rw [hy] at c1
      have Hy := Lib.hid hy
      have Ht1 := Lib.hid ht1
      have Ra := Lib.hid ra
      have HE := Lib.hid hst.each
      obtain ⟨x1, hx1⟩ : ∃ x, Rec.fewR t.rows = x := ⟨_, rfl⟩
      have HX := Lib.hid hx1
      obtain ⟨hjn, hj15⟩ := hlt
      have g0 : decide ((j : Int) < (n : Int)) = true := decide_eq_true (by omega)
      have g1 : decide ((j : Int) ≤ 15) = true := decide_eq_true (by omega)
      clear ht1 hy ra hst hx1
      cases x1
      · have e : b = false := by
          rw [← Hb.out]
          cases h : fewCB ts
          · rfl
          · have := (fewCB_iff.1 h).2 t (List.mem_of_getElem? Ht1.out)
            rw [HX.out] at this
            cases this
        subst e
        go_wp2_with (go_at_call 13; refine (Rec.fewr_n t.rows y Hy.out Aj kj _ Ra.out hy9 HE.out).mono ?_; rintro e wn ⟨rfl, hs⟩; rw [HX.out]; have HS2 := Lib.hid (Stp.trans HS.out hs); clear hs)
        go_ret
        exact ⟨rfl, HS2.out⟩
      · go_wp2_with (go_at_call 13; refine (Rec.fewr_n t.rows y Hy.out Aj kj _ Ra.out hy9 HE.out).mono ?_; rintro e wn ⟨rfl, hs⟩; rw [HX.out]; have HS2 := Lib.hid (Stp.trans HS.out hs); clear hs)
        go_roundw
        case rel =>
          refine ⟨j + 1, by omega, by omega, by go_num, HS2, Lib.hid fun x hx => ?_⟩
          rw [List.take_add_one, Ht1.out] at hx
          rcases List.mem_append.1 hx with h | h
          · exact Hk.out x h
          · simp at h
            rw [h]
            exact HX.out
        case measure => simp [intOf]; omega
    · by_cases h15 : 15 < n
      · have e : b = false := by
          rw [← Hb.out]
          cases h : fewCB ts
          · rfl
          · have := (fewCB_iff.1 h).1
            rw [Hn.out] at this
            omega
        subst e
        have g1 : decide ((n : Int) ≤ 15) = false := decide_eq_false (by omega)
        have g2 : ¬ n ≤ 15 := by omega
        have hj16 : j = 16 := by omega
        clear hlt
        subst hj16
        go_wp2_with fail
        all_goals go_ret
        all_goals exact ⟨rfl, HS.out⟩
      · obtain rfl : j = n := by omega
        have hall : b = true := by
          rw [← Hb.out, fewCB_iff, Hn.out]
          have h := Hk.out
          rw [List.take_of_length_le (by rw [Hn.out]; exact Nat.le_refl _)] at h
          exact ⟨by omega, h⟩
        subst hall
        have g1 : decide ((j : Int) ≤ 15) = true := decide_eq_true (by omega)
        have g2 : j ≤ 15 := by omega
        clear hlt
        go_wp2_with fail
        all_goals go_ret
        all_goals exact ⟨rfl, HS.out⟩

/-! ### awake -/
theorem lit_tapes {w : World} {c1 c2 : Int} {A1 A2 : Option Addr} {n1 n2 k1 k2 : Nat} {m1 m2 : Bool} {l1 l2 : LL} {t : TypeId} (h1 : RdL w A1 k1 l1) (h2 : RdL w A2 k2 l2) (e1 : l1.length = n1) (e2 : l2.length = n2) :
    RdS (w.alloc (.cells #[.int .i64 c1, .slice A1 n1 k1, .bool m1, .int .i64 c2, .slice A2 n2 k2, .bool m2] t)) (some ⟨w.heap.size, 0, none⟩) 2 [⟨c1, l1, m1⟩, ⟨c2, l2, m2⟩] := by
  subst e1 e2
  have hs : Stp w (w.alloc (.cells #[.int .i64 c1, .slice A1 l1.length k1, .bool m1, .int .i64 c2, .slice A2 l2.length k2, .bool m2] t)) := Stp.alloc (Stp.refl w) _
  have hb := Blk.new w t #[.int .i64 c1, .slice A1 l1.length k1, .bool m1, .int .i64 c2, .slice A2 l2.length k2, .bool m2]
  refine ⟨by simp, fun _ => ⟨w.heap.size, 0, rfl, hb.lt, fun j x hj => ?_⟩⟩
  match j with
  | 0 =>
    cases hj
    exact ⟨A1, k1, by rw [hb.cell]; rfl, by rw [hb.cell]; rfl, by rw [hb.cell]; rfl, h1.keep hs⟩
  | 1 =>
    cases hj
    exact ⟨A2, k2, by rw [hb.cell]; rfl, by rw [hb.cell]; rfl, by rw [hb.cell]; rfl, h2.keep hs⟩
  | j + 2 => simp at hj
theorem zero_few (c : Int) (h0 : -9223372036854775808 ≤ c) (h1 : c < 9223372036854775808) : FewC ⟨c, [], false⟩ := ⟨⟨h0, h1, by simp, by simp⟩, by show (blocksV []).length ≤ 1000; decide⟩
theorem ex_who : whoT ⟨1, [], false⟩ = ([], 0, 7) := by decide
set_option maxRecDepth 100000 in
set_option maxHeartbeats 8000000 in
theorem awake_s {Tb : World → Prop} (I : CheckI Tb) (w : World) (htab : Tb w) : Calls Tryz.prog 6 #[] w fun e w' => e = .returned (.bool true) ∧ Stp w w' := by
  obtain ⟨V, hV, hV3, h512, hB, hW, hF⟩ := ex_check
  have hfew : FewC ⟨3, V, false⟩ := ⟨⟨by show (-9223372036854775808 : Int) ≤ 3; decide, by show (3 : Int) < 9223372036854775808; decide, by show V.length ≤ 1000; omega, fun l hl => by have := h512 l hl; omega⟩, by show (blocksV V).length ≤ 1000; rw [(blocks_same h512 (by omega)).2]; omega⟩
  have hf2 : findT [⟨3, V, false⟩, ⟨3, V, false⟩] [120] 1 = [0, 1] := by simp [findT, findG, isT, hW]
  have hz1 : (fitsT zeroS [120] 1 ⟨0, [], false⟩).2 ≠ 0 := by decide
  have hn2 : nextT zeroS [120] 1 [⟨0, [], false⟩, ⟨3, V, false⟩] = 1 := by
    rw [nextT, nextG, if_neg hz1, nextG, if_pos (by rw [hF])]
    rfl
  have HI := Lib.hid I
  have HT := Lib.hid htab
  have HV := Lib.hid hV
  have HV3 := Lib.hid hV3
  have HB := Lib.hid hB
  have HW := Lib.hid hW
  have HF := Lib.hid hF
  have Hfew := Lib.hid hfew
  have Hf2 := Lib.hid hf2
  have Hn2 := Lib.hid hn2
  have h0 := Lib.hid (Stp.refl w)
  have H0t := Lib.hid (show ([] : List Nd).length = 0 from rfl)
  have Hn0 : Hid (∀ n ∈ ([] : List Nd), SmallN n) := Lib.hid (fun n hn => by cases hn)
  have Hall : Hid (∀ t ∈ ([⟨3, V, false⟩, ⟨3, V, false⟩] : List Tp), FewC t) := Lib.hid (by intro t ht; simp at ht; rw [ht]; exact hfew)
  have Hall2 : Hid (∀ t ∈ ([⟨0, [], false⟩, ⟨3, V, false⟩] : List Tp), FewC t) := Lib.hid (by intro t ht; simp at ht; rcases ht with rfl | rfl; exact zero_few 0 (by decide) (by decide); exact hfew)
  clear hV hV3 hB hW hF htab I hfew hf2 hn2 hz1 h512
  go_enter Tryz.func6, Tryz.ntmps6
  go_upto_region 2 with (go_at_call 12; refine (HI.out.who 1 [] false 0 (zero_few 1 (by decide) (by decide)) rfl [] 0 7 ex_who none 0 _ (RdL.nil _) HT.out).mono ?_; rintro e w1 ⟨rfl, hs⟩; replace h0 := Lib.hid (Stp.trans h0.out hs); clear hs)
  have hz := lit_z w1 3 3
  have hst := Stp.alloc h0.out (.cells #[.int .i64 3] 3)
  rw [show ([3] : List Int) = exC.caps from rfl] at hz
  have hsv : Value.agg #[.string ⟨#[120]⟩, .int .i64 1, .slice (some ⟨w1.heap.size, 0, none⟩) 1 1] = Vol.sv exC (some ⟨w1.heap.size, 0, none⟩) 1 := rfl
  have Hsv := Lib.hid hsv
  have Hz := Lib.hid hz
  replace h0 := Lib.hid hst
  clear hsv hz hst
  go_upto_region 5 with (go_at_call 15; refine (HI.out.split [] 0 H0t.out (by omega) Hn0.out exC _ 1 _ Hsv.out exC_small [V] 0 HV.out 1 rfl none 0 _ (RdN.nil _) Hz.out (HI.out.keep HT.out h0.out)).mono ?_; rintro e w2 ⟨B1, d1, rfl, hr, hs⟩; have HR := Lib.hid hr; replace h0 := Lib.hid (Stp.trans h0.out hs); clear hr hs)
  obtain ⟨bv, ov, Bv, dv, rfl, hcv, hLv⟩ := HR.out.at_ (j := 0) (vs := V) rfl
  rw [HV3.out, Nat.add_zero] at hcv
  have HLv := Lib.hid hLv
  clear hLv
  go_upto_region 6 with fail
  have HBt := Lib.hid (Blk.new w2 38 (tcs 3 Bv 3 dv false))
  have hal := Stp.alloc (Stp.refl w2) (.cells (tcs 3 Bv 3 dv false) 38)
  replace h0 := Lib.hid (Stp.trans h0.out hal)
  replace HLv := Lib.hid (HLv.out.keep hal)
  change Code.wp _ _ _ _ (w2.alloc (.cells (tcs 3 Bv 3 dv false) 38))
  obtain ⟨g, hg⟩ : ∃ g, w2.heap.size = g := ⟨_, rfl⟩
  rw [hg] at HBt ⊢
  clear hal hg hcv
  generalize w2.alloc (.cells (tcs 3 Bv 3 dv false) 38) = W at HBt h0 HLv ⊢
  obtain ⟨⟨t0, t1, t2⟩, -, -, -⟩ := Tape.tt_all HBt.out
  go_wp2_with (first
    | (go_at_call 12; (refine (HI.out.who 3 V false 3 Hfew.out HV3.out [120] 1 0 HW.out Bv dv _ HLv.out (HI.out.keep HT.out h0.out)).mono ?_); rintro e w3 ⟨rfl, hs⟩; replace h0 := Lib.hid (Stp.trans h0.out hs); replace HBt := Lib.hid (HBt.out.keep hs HBt.out.lt); replace HLv := Lib.hid (HLv.out.keep hs); clear hs t0 t1 t2; obtain ⟨⟨t0, t1, t2⟩, -, -, -⟩ := Tape.tt_all HBt.out)
    | (go_at_call 14; (refine (HI.out.blocks 3 V false 3 Hfew.out HV3.out V 0 HB.out 3 HV3.out Bv dv _ HLv.out).mono ?_); rintro e w4 ⟨B4, d4, rfl, -, hs⟩; replace h0 := Lib.hid (Stp.trans h0.out hs); replace HBt := Lib.hid (HBt.out.keep hs HBt.out.lt); replace HLv := Lib.hid (HLv.out.keep hs); clear hs t0 t1 t2; obtain ⟨⟨t0, t1, t2⟩, -, -, -⟩ := Tape.tt_all HBt.out)
    | (go_at_call 11; (refine (HI.out.fits zeroS _ Parse.zero_sv Parse.zeroS_small [120] 1 rfl (by omega) 1 (by omega) (by omega) 3 V false 3 Hfew.out HV3.out 1 0 HF.out Bv dv _ HLv.out (HI.out.keep HT.out h0.out)).mono ?_); rintro e w5 ⟨rfl, hs⟩; replace h0 := Lib.hid (Stp.trans h0.out hs); replace HBt := Lib.hid (HBt.out.keep hs HBt.out.lt); replace HLv := Lib.hid (HLv.out.keep hs); clear hs t0 t1 t2; obtain ⟨⟨t0, t1, t2⟩, -, -, -⟩ := Tape.tt_all HBt.out)
    | (go_at_call 10; (refine (HI.out.find [⟨3, V, false⟩, ⟨3, V, false⟩] 2 rfl (by omega) Hall.out [120] 1 rfl (by omega) 1 (by omega) (by omega) [0, 1] Hf2.out 2 rfl _ _ _ (lit_tapes HLv.out HLv.out HV3.out HV3.out) (HI.out.keep HT.out (Stp.alloc h0.out _))).mono ?_); rintro e w6 ⟨B6, d6, rfl, -, hs⟩; replace hs := Stp.trans (Stp.alloc (Stp.refl _) _) hs; replace h0 := Lib.hid (Stp.trans h0.out hs); replace HBt := Lib.hid (HBt.out.keep hs HBt.out.lt); replace HLv := Lib.hid (HLv.out.keep hs); clear hs t0 t1 t2; obtain ⟨⟨t0, t1, t2⟩, -, -, -⟩ := Tape.tt_all HBt.out)
    | (go_at_call 9; (refine (HI.out.next zeroS _ Parse.zero_sv Parse.zeroS_small [120] 1 rfl (by omega) 1 (by omega) (by omega) [⟨0, [], false⟩, ⟨3, V, false⟩] 2 rfl (by omega) Hall2.out 1 Hn2.out _ _ _ (lit_tapes (RdL.nil _) HLv.out rfl HV3.out) (HI.out.keep HT.out (Stp.alloc h0.out _))).mono ?_); rintro e w7 ⟨rfl, hs⟩; replace hs := Stp.trans (Stp.alloc (Stp.refl _) _) hs; replace h0 := Lib.hid (Stp.trans h0.out hs); replace HBt := Lib.hid (HBt.out.keep hs HBt.out.lt); replace HLv := Lib.hid (HLv.out.keep hs); clear hs t0 t1 t2; obtain ⟨⟨t0, t1, t2⟩, -, -, -⟩ := Tape.tt_all HBt.out))
  go_ret
  exact ⟨rfl, h0.out⟩
end Go.Proofs.YtllnnlmhbmladaaGreatDoor.Check
