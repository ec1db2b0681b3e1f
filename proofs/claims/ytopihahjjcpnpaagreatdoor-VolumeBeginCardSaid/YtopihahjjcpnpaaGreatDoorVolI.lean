/-
  What the walks of package volume's laws ask of its code, the chapter's example, and whether a set is small: no statement is proved here.
  What the walks of volume's laws share: the statements' awake, and whether a set, or a tree, is small: no statement is proved here.
-/
import Derived.Test.YtopihahjjcpnpaaGreatDoorVolM
import Derived.Test.YtopihahjjcpnpaaGreatDoorTreeS
import Derived.Test.YtopihahjjcpnpaaGreatDoorEntrySl
import Derived.Lib.QuietBelow
import Derived.BigQuiet
import Derived.Deep.Cut
import Derived.Test.YtopihahjjcpnpaaGreatDoorBlockK
namespace Go.Proofs.YtopihahjjcpnpaaGreatDoor.Base
open Go.RowKit
section
variable {w w' : World} {A : Option Addr} {cap : Nat} {vss : List (List (List UInt8))}
theorem RdV.keep (h : RdV w A cap vss) (hs : Stp w w') : RdV w' A cap vss := by
  obtain ⟨us, h1, h2, h3⟩ := h
  refine ⟨us, h1, h2.keep hs, fun j vs hj => ?_⟩
  obtain ⟨B, d, hu, hL⟩ := h3 j vs hj
  exact ⟨B, d, hu, hL.keep hs⟩
theorem RdV.at_ (h : RdV w A cap vss) {j : Nat} {vs : List (List UInt8)} (hj : vss[j]? = some vs) : ∃ b o B d, A = some ⟨b, o, none⟩ ∧ w.cell? ⟨b, o + j, none⟩ = some (.slice B vs.length d) ∧ RdL w B d vs := by
  obtain ⟨us, h1, h2, h3⟩ := h
  obtain ⟨B, d, hu, hL⟩ := h3 j vs hj
  obtain ⟨b, o, rfl, hc⟩ := h2.at_ (j := j) (List.getElem?_eq_some_iff.1 hu).1
  exact ⟨b, o, B, d, rfl, hc j _ hu, hL⟩
theorem RdV.le (h : RdV w A cap vss) : vss.length ≤ cap := by
  obtain ⟨us, h1, h2, -⟩ := h
  have := RdA.length_le h2
  omega
theorem RdV.take (h : RdV w A cap vss) (k : Nat) : RdV w A cap (vss.take k) := by
  obtain ⟨us, h1, h2, h3⟩ := h
  refine ⟨us.take k, by rw [List.length_take, List.length_take, h1], h2.take k, fun j vs hj => ?_⟩
  have hjk : j < k := by
    have := (List.getElem?_eq_some_iff.1 hj).1
    rw [List.length_take] at this
    omega
  rw [List.getElem?_take, if_pos hjk] at hj ⊢
  exact h3 j vs hj
theorem RdV.nil (w : World) : RdV w none 0 [] := ⟨[], rfl, RdA.nil w, by simp⟩
end
end Go.Proofs.YtopihahjjcpnpaaGreatDoor.Base
namespace Go.Proofs.YtopihahjjcpnpaaGreatDoor.Vol
open Go.Sort Go.RowKit Go.Proofs.YtopihahjjcpnpaaGreatDoor.Str Go.Proofs.YtopihahjjcpnpaaGreatDoor.Base Go.Proofs.YtopihahjjcpnpaaGreatDoor.Node Go.Proofs.YtopihahjjcpnpaaGreatDoor.Head Go.Proofs.YtopihahjjcpnpaaGreatDoor.Long Go.Proofs.YtopihahjjcpnpaaGreatDoor.Entry Go.Proofs.YtopihahjjcpnpaaGreatDoor.LabelM Go.Proofs.YtopihahjjcpnpaaGreatDoor.ContM Go.Proofs.YtopihahjjcpnpaaGreatDoor.Stream Go.Proofs.YtopihahjjcpnpaaGreatDoor.VolM
open Go.Proofs.YtopihahjjcpnpaaGreatDoor.Tree (oneB mayT fewT)
set_option linter.unusedVariables false
abbrev LL := List (List UInt8)

/-- The contracts of the five calls; what they ask of the world (Go's tables), Tb, lasts. -/
structure VolI (Tb : World → Prop) : Prop where
  keep : ∀ {w w' : World}, Tb w → Stp w w' → Tb w'
  may : ∀ (s : Sett) (A : Option Addr) (k : Nat) (v : Value), v = sv s A k → SmallS s → ∀ (b : Bool), mayS s = b → ∀ w : World, RdZ w A k s.caps → Tb w →
    Calls Tryz.prog 21 #[v] w fun e w' => e = .returned (.bool b) ∧ Stp w w'
  begin : ∀ (t : List Nd) (m : Nat), t.length = m → m ≤ 1000 → (∀ n ∈ t, SmallN n) → ∀ (s : Sett) (A : Option Addr) (k : Nat) (v : Value), v = sv s A k → SmallS s → ∀ (pos n : Int), -9223372036854775808 ≤ pos → pos < 9223372036854775808 → -9223372036854775808 ≤ n → n < 9223372036854775808 →
    ∀ (V : LL), beginV t s pos n = V → ∀ (z : Nat), V.length = z → ∀ (b : Bool), beginB t s pos n = b → ∀ (T : Option Addr) (ct : Nat) (w : World), RdN w T ct t → RdZ w A k s.caps → Tb w →
    Calls Tryz.prog 16 #[.slice T m ct, v, .int .i64 pos, .int .i64 n] w fun e w' => ∃ B d, e = .returned (.tuple #[.slice B z d, .bool b]) ∧ RdL w' B d V ∧ Stp w w'
  split : ∀ (t : List Nd) (m : Nat), t.length = m → m ≤ 1000 → (∀ n ∈ t, SmallN n) → ∀ (s : Sett) (A : Option Addr) (k : Nat) (v : Value), v = sv s A k → SmallS s → ∀ (Q : List LL) (E : Int), splitV t s = (Q, E) → ∀ (z : Nat), Q.length = z →
    ∀ (T : Option Addr) (ct : Nat) (w : World), RdN w T ct t → RdZ w A k s.caps → Tb w →
    Calls Tryz.prog 14 #[.slice T m ct, v] w fun e w' => ∃ B d, e = .returned (.tuple #[.slice B z d, .int .i64 E]) ∧ RdV w' B d Q ∧ Stp w w'
  needs : ∀ (t : List Nd) (m : Nat), t.length = m → m ≤ 1000 → (∀ n ∈ t, SmallN n) → ∀ (s : Sett) (A : Option Addr) (k : Nat) (v : Value), v = sv s A k → SmallS s → ∀ (N : Int), needsV t s = N →
    ∀ (T : Option Addr) (ct : Nat) (w : World), RdN w T ct t → RdZ w A k s.caps → Tb w →
    Calls Tryz.prog 22 #[.slice T m ct, v] w fun e w' => e = .returned (.int .i64 N) ∧ Stp w w'
  same : ∀ (P Q : List LL) (a b : Nat), P.length = a → Q.length = b → a < 9223372036854775808 → b < 9223372036854775808 → (∀ x ∈ P, x.length < 9223372036854775808) → (∀ x ∈ Q, x.length < 9223372036854775808) → ∀ (r : Bool), (P == Q) = r →
    ∀ (A B : Option Addr) (c d : Nat) (w : World), RdV w A c P → RdV w B d Q →
    Calls Tryz.prog 24 #[.slice A a c, .slice B b d] w fun e w' => e = .returned (.bool r) ∧ Stp w w'

/-! ### what a split's volumes are -/
theorem split_no {t : List Nd} {s : Sett} (h : (mayT t && mayS s) = false) : splitV t s = ([], 1) := by rw [splitV, if_neg (by simp [h])]
theorem split_small {t : List Nd} {s : Sett} {Q : List LL} {E : Int} (h : splitV t s = (Q, E)) : ∀ x ∈ Q, x.length ≤ 4000 := by
  intro x hx
  by_cases hm : (mayT t && mayS s) = true
  · rw [Bool.and_eq_true] at hm
    have hc := chain_split hm.1 hm.2
    rw [h] at hc
    obtain ⟨i, hi⟩ := List.mem_iff_getElem?.1 hx
    obtain ⟨c, h1, h2, h3, -⟩ := chain_room hm.2 hc i x hi
    have h4 := cap_ok hm.2 h1
    obtain ⟨-, b1, b2, -, -⟩ := mayS_iff.1 hm.2
    have h5 : s.b * c ≤ 20 * 200 := Int.mul_le_mul b2 h4.2 h4.1 (by omega)
    omega
  · rw [split_no (by simpa using hm)] at h
    cases h
    cases hx
theorem split_few {t : List Nd} {s : Sett} {Q : List LL} {E : Int} (h : splitV t s = (Q, E)) : Q.length ≤ 12 := by
  by_cases hm : (mayT t && mayS s) = true
  · rw [Bool.and_eq_true] at hm
    have hc := chain_split hm.1 hm.2
    rw [h] at hc
    have h1 := (chain_count hc (Nat.zero_le _)).1
    have h2 := (mayS_iff.1 hm.2).2.2.2.1
    dsimp only at h1
    omega
  · rw [split_no (by simpa using hm)] at h
    cases h
    simp

/-! ### the chapter's example -/
def exS : Sett := ⟨[120], 2, [2]⟩
theorem exS_may : mayS exS = true := by decide
theorem exS_small : SmallS exS := by
  refine ⟨by decide, by decide, by decide, by decide, ?_⟩
  intro x hx
  simp [exS] at hx
  omega
theorem all_nil : allS [] = [nought, nought] := by
  unfold allS
  exact endsV_is
theorem ex_begin : beginL [] exS 0 1 = [lblK [120] 1] := by
  rw [beginL, goesOn, if_neg (by rw [whereL]; decide)]
  rfl
theorem ex_split : ∃ V : LL, splitV [] exS = ([V], 0) ∧ V.length = 4 := by
  have ha : (allS []).length = 2 := by rw [all_nil]; rfl
  refine ⟨volV [] exS 0 0 4, ?_, ?_⟩
  · rw [splitV, if_pos (by rw [exS_may]; rfl), ha, volsG, ha, if_neg (by omega)]
    show (if (4 : Nat) ≤ (beginL [] exS 0 ((0 : Nat) + 1)).length then _ else _) = _
    rw [show (((0 : Nat) : Int) + 1) = 1 from rfl, ex_begin, if_neg (by simp)]
    rw [vols_over (by rw [ha]; show 2 ≤ 0 + (4 - 1); omega)]
    rfl
  · rw [volV, show (((0 : Nat) : Int) + 1) = 1 from rfl, ex_begin, ha, all_nil]
    rfl
theorem ex_beginV : beginV [] exS 0 1 = [lblK [120] 1] ∧ beginB [] exS 0 1 = true := by
  have ha : (allS []).length = 2 := by rw [all_nil]; rfl
  have hb : beginB [] exS 0 1 = true := by
    rw [beginB_iff]
    exact ⟨rfl, exS_may, by decide, by decide, by rw [ha]; decide⟩
  exact ⟨by rw [beginV_yes hb]; exact ex_begin, hb⟩
theorem ex_needs : needsV [] exS = 1 := by
  obtain ⟨V, h, -⟩ := ex_split
  rw [needsV, h]
  rfl
end Go.Proofs.YtopihahjjcpnpaaGreatDoor.Vol

namespace Go.Proofs.YtopihahjjcpnpaaGreatDoor.Vol
open Go.Sort Go.RowKit Go.Proofs.YtopihahjjcpnpaaGreatDoor.Str Go.Proofs.YtopihahjjcpnpaaGreatDoor.Base Go.Proofs.YtopihahjjcpnpaaGreatDoor.Node Go.Proofs.YtopihahjjcpnpaaGreatDoor.Head Go.Proofs.YtopihahjjcpnpaaGreatDoor.Long Go.Proofs.YtopihahjjcpnpaaGreatDoor.Entry Go.Proofs.YtopihahjjcpnpaaGreatDoor.LabelM Go.Proofs.YtopihahjjcpnpaaGreatDoor.ContM Go.Proofs.YtopihahjjcpnpaaGreatDoor.Stream Go.Proofs.YtopihahjjcpnpaaGreatDoor.VolM
open Go.Proofs.YtopihahjjcpnpaaGreatDoor.Tree (oneB mayT fewT)
set_option linter.unusedVariables false

theorem many_two {t : List Nd} (h : mayT t = true) : 2 ≤ (allS t).length := by
  have := all_length h
  omega
theorem set_cells3 {w : World} {g : Nat} {t : TypeId} {s : Sett} {A : Option Addr} {k : Nat} (hb : Blk w g t (scells s A k)) :
    w.cell? ⟨g, 0, none⟩ = some (.string ⟨s.label.toArray⟩) ∧ w.cell? ⟨g, 1, none⟩ = some (.int .i64 s.b) ∧ w.cell? ⟨g, 2, none⟩ = some (.slice A s.caps.length k) := by
  refine ⟨?_, ?_, ?_⟩ <;> (rw [hb.cell]; rfl)
theorem lit_z (w : World) (x : Int) (e : TypeId) : RdZ (w.alloc (.cells #[.int .i64 x] e)) (some ⟨w.heap.size, 0, none⟩) 1 [x] := by
  have hb : Blk (w.alloc (.cells #[.int .i64 x] e)) w.heap.size e (zcs [x]).toArray := Blk.new w e #[.int .i64 x]
  exact (Base.Own.of_blk (lo := 0) hb (Nat.zero_le _) (n := 1) rfl (by unfold maxLen; omega)).rd
def fewS (s : Sett) : Bool := decide (s.label.length ≤ 200) && decide (s.caps.length ≤ 20)
theorem fewS_iff {s : Sett} : fewS s = true ↔ s.label.length ≤ 200 ∧ s.caps.length ≤ 20 := by simp [fewS]
set_option maxRecDepth 100000 in
theorem fews_v (s : Sett) (A : Option Addr) (k : Nat) (v : Value) (hv : v = sv s A k) (b : Bool) (hb : fewS s = b) (w : World) :
    Calls Tryz.prog 13 #[v] w fun e w' => e = .returned (.bool b) ∧ Stp w w' := by
  subst hv
  have h0 := Stp.alloc (Stp.refl w) (.cells (scells s A k) 25)
  obtain ⟨q0, q1, q2⟩ := set_cells3 (Blk.new w 25 (scells s A k))
  obtain ⟨b1, k1⟩ : ∃ b, decide ((s.label.length : Int) ≤ 200) = b := ⟨_, rfl⟩
  obtain ⟨b2, k2⟩ : ∃ b, decide ((s.caps.length : Int) ≤ 20) = b := ⟨_, rfl⟩
  have hb2 : (b1 && b2) = b := by
    rw [← hb, fewS, ← k1, ← k2]
    congr 1
    · exact decide_eq_decide.2 (by omega)
    · exact decide_eq_decide.2 (by omega)
  have HB := Lib.hid hb2
  clear hb hb2
  cases b1
  all_goals
    go_enter Tryz.func13, Tryz.ntmps13
    go_wp2_with fail
    go_ret
    exact ⟨by rw [← HB.out]; simp, h0⟩
theorem fewt_v (t : List Nd) (m : Nat) (hm : t.length = m) (hl : m < 9223372036854775808) (b : Bool) (hb : fewT t = b) (T : Option Addr) (ct : Nat) (w : World) (ht : RdN w T ct t) :
    Calls Tryz.prog 12 #[.slice T m ct] w fun e w' => e = .returned (.bool b) ∧ Stp w w' := by
  subst hm hb
  exact Tree.fewt_s t T ct w ht hl
theorem bmay_v (ls : LL) (z : Nat) (hz : ls.length = z) (hl : z < 9223372036854775808) (b : Bool) (hb : BlockM.mayV ls = b) (A : Option Addr) (c : Nat) (w : World) (ha : RdL w A c ls) :
    Calls Tryz.prog 25 #[.slice A z c] w fun e w' => e = .returned (.bool b) ∧ Stp w w' := by
  subst hz hb
  exact Block.may_s ls A c w ha hl
set_option maxRecDepth 100000 in
set_option maxHeartbeats 4000000 in
theorem awake_s {Tb : World → Prop} (I : VolI Tb) (w : World) (htab : Tb w) : Calls Tryz.prog 11 #[] w fun e w' => e = .returned (.bool true) ∧ Stp w w' := by
  obtain ⟨V, hV, hV4⟩ := ex_split
  obtain ⟨e1, e2⟩ := ex_beginV
  obtain ⟨X, hX⟩ : ∃ X, lblK [120] 1 = X := ⟨_, rfl⟩
  rw [hX] at e1
  obtain ⟨s, hs⟩ : ∃ s, exS = s := ⟨_, rfl⟩
  have hN := ex_needs
  have hm := exS_may
  have hsm := exS_small
  have hz := lit_z w 2 3
  have hst := Stp.alloc (Stp.refl w) (.cells #[.int .i64 2] 3)
  have hB0 := Blk.new (w.alloc (.cells #[.int .i64 2] 3)) 25 (scells exS (some ⟨w.heap.size, 0, none⟩) 1)
  have ha0 := RdA.keep hz (Stp.alloc (Stp.refl _) (.cells (scells exS (some ⟨w.heap.size, 0, none⟩) 1) 25))
  replace hst := Stp.alloc hst (.cells (scells exS (some ⟨w.heap.size, 0, none⟩) 1) 25)
  rw [show ([2] : List Int) = exS.caps from rfl] at ha0
  have HI := Lib.hid I
  have HT := Lib.hid htab
  have HV4 := Lib.hid hV4
  have H1 := Lib.hid (show ([V] : List LL).length = 1 from rfl)
  have HX1 := Lib.hid (show ([X] : LL).length = 1 from rfl)
  have H0t := Lib.hid (show ([] : List Nd).length = 0 from rfl)
  have Hn0 : Hid (∀ n ∈ ([] : List Nd), SmallN n) := Lib.hid (fun n hn => by cases hn)
  have HVl : Hid (∀ x ∈ [V], x.length < 9223372036854775808) := Lib.hid (fun x hx => by rw [List.mem_singleton.1 hx, hV4]; omega)
  have HVV : Hid (([V] == [V]) = true) := Lib.hid (by simp)
  have HQ := Lib.hid hV
  have HE1 := Lib.hid e1
  have HE2 := Lib.hid e2
  have HN := Lib.hid hN
  have HM := Lib.hid hm
  have HS := Lib.hid hsm
  clear hV hV4 e1 e2 hX hN hm hsm htab I hz hs
  go_enter Tryz.func11, Tryz.ntmps11
  go_upto_region 2 with fail
  change Code.wp _ _ _ _ ((w.alloc (.cells #[.int .i64 2] 3)).alloc (.cells (scells exS (some ⟨w.heap.size, 0, none⟩) 1) 25))
  obtain ⟨g, hg⟩ : ∃ g, (w.alloc (.cells #[.int .i64 2] 3)).heap.size = g := ⟨_, rfl⟩
  have hg1 : g = w.heap.size + 1 := by rw [← hg, World.size_alloc]
  rw [hg] at hB0
  clear hg
  subst hg1
  generalize (w.alloc (.cells #[.int .i64 2] 3)).alloc (.cells (scells exS (some ⟨w.heap.size, 0, none⟩) 1) 25) = W at hst hB0 ha0 ⊢
  have h0 := Lib.hid hst
  have HB := Lib.hid hB0
  have Ha := Lib.hid ha0
  obtain ⟨q0, q1, q2⟩ := set_cells3 hB0
  clear hst hB0 ha0
  go_upto_region 4 with (first
    | (go_at_call 14; refine (HI.out.split [] 0 H0t.out (by omega) Hn0.out exS _ 1 _ rfl HS.out [V] 0 HQ.out 1 H1.out none 0 _ (RdN.nil _) Ha.out (HI.out.keep HT.out h0.out)).mono ?_; rintro e w1 ⟨B1, d1, rfl, hr, hs⟩; have HR := Lib.hid hr; replace h0 := Lib.hid (Stp.trans h0.out hs); replace HB := Lib.hid (HB.out.keep hs HB.out.lt); replace Ha := Lib.hid (RdA.keep Ha.out hs); clear hr hs q0 q1 q2; obtain ⟨q0, q1, q2⟩ := set_cells3 HB.out)
    | (go_at_call 16; refine (HI.out.begin [] 0 H0t.out (by omega) Hn0.out exS _ 1 _ rfl HS.out 0 1 (by omega) (by omega) (by omega) (by omega) [X] HE1.out 1 HX1.out true HE2.out none 0 _ (RdN.nil _) Ha.out (HI.out.keep HT.out h0.out)).mono ?_; rintro e w2 ⟨B2, d2, rfl, -, hs⟩; replace HR := Lib.hid (HR.out.keep hs); replace h0 := Lib.hid (Stp.trans h0.out hs); replace HB := Lib.hid (HB.out.keep hs HB.out.lt); replace Ha := Lib.hid (RdA.keep Ha.out hs); clear hs q0 q1 q2; obtain ⟨q0, q1, q2⟩ := set_cells3 HB.out))
  obtain ⟨bv, ov, Bv, dv, rfl, hcv, -⟩ := HR.out.at_ (j := 0) (vs := V) rfl
  rw [HV4.out, Nat.add_zero] at hcv
  go_wp2_with (first
    | (go_at_call 22; refine (HI.out.needs [] 0 H0t.out (by omega) Hn0.out exS _ 1 _ rfl HS.out 1 HN.out none 0 _ (RdN.nil _) Ha.out (HI.out.keep HT.out h0.out)).mono ?_; rintro e w3 ⟨rfl, hs⟩; replace HR := Lib.hid (HR.out.keep hs); replace h0 := Lib.hid (Stp.trans h0.out hs); replace HB := Lib.hid (HB.out.keep hs HB.out.lt); replace Ha := Lib.hid (RdA.keep Ha.out hs); clear hs q0 q1 q2; obtain ⟨q0, q1, q2⟩ := set_cells3 HB.out)
    | (go_at_call 21; refine (HI.out.may exS _ 1 _ rfl HS.out true HM.out _ Ha.out (HI.out.keep HT.out h0.out)).mono ?_; rintro e w4 ⟨rfl, hs⟩; replace HR := Lib.hid (HR.out.keep hs); replace h0 := Lib.hid (Stp.trans h0.out hs); clear hs q0 q1 q2)
    | (go_at_call 24; refine (HI.out.same [V] [V] 1 1 H1.out H1.out (by omega) (by omega) HVl.out HVl.out true HVV.out _ _ _ _ _ HR.out HR.out).mono ?_; rintro e w5 ⟨rfl, hs⟩; replace h0 := Lib.hid (Stp.trans h0.out hs); clear hs))
  go_ret
  exact ⟨rfl, h0.out⟩
end Go.Proofs.YtopihahjjcpnpaaGreatDoor.Vol

