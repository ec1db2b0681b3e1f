/-
  What the walks of package volume's laws ask of its code, the chapter's example, and whether a set is small: no statement is proved here. What the walks of volume's laws share: the statements' awake, and whether a set, or a tree, is small: no statement is proved here.
  Rows of numbers that a call makes by append, and the first volumes of several: no statement is proved here. What the walks of volume's laws ask of package stream, and the least room behind the beginnings: no statement is proved here. What a volume begins with, told again: no statement is proved here.
-/
import Derived.Test.YthjdejjejlhioaaGreatDoorVolM
import Derived.Test.YthjdejjejlhioaaGreatDoorTreeS
import Derived.Test.YthjdejjejlhioaaGreatDoorEntrySl
import Derived.Lib.QuietBelow
import Derived.BigQuiet
import Derived.Deep.Cut
import Derived.Test.YthjdejjejlhioaaGreatDoorBlockK
import Derived.Test.YthjdejjejlhioaaGreatDoorBlockRef
namespace Go.Proofs.YthjdejjejlhioaaGreatDoor.Base
open Go.RowKit
section
variable {w w' : World} {A : Option Addr} {cap : Nat} {vss : List (List (List UInt8))}
theorem RdV.keep (h : RdV w A cap vss) (hs : Stp w w') : RdV w' A cap vss := by
  obtain ⟨us, h1, h2, h3⟩ := h
  refine ⟨us, h1, h2.keep hs, fun j vs hj => ?_⟩
  obtain ⟨B, d, hu, hL⟩ := h3 j vs hj
  exact ⟨B, d, hu, hL.keep hs⟩
theorem RdV.at_ (h : RdV w A cap vss) {j : Nat} {vs : List (List UInt8)} (hj : vss[j]? = some vs) : ∃ b o B d, A = some ⟨b, o, none⟩ ∧ w.cell? ⟨b, o + j, none⟩ = some (.slice B vs.length d) ∧ RdL w B d vs := by
  obtain ⟨us, h1, h2, h3⟩ := h
  obtain ⟨B, d, hu, hL⟩ := h3 j vs hj
  obtain ⟨b, o, rfl, hc⟩ := h2.at_ (j := j) (List.getElem?_eq_some_iff.1 hu).1
  exact ⟨b, o, B, d, rfl, hc j _ hu, hL⟩
theorem RdV.le (h : RdV w A cap vss) : vss.length ≤ cap := by
  obtain ⟨us, h1, h2, -⟩ := h
  have := RdA.length_le h2
  omega
theorem RdV.take (h : RdV w A cap vss) (k : Nat) : RdV w A cap (vss.take k) := by
  obtain ⟨us, h1, h2, h3⟩ := h
  refine ⟨us.take k, by rw [List.length_take, List.length_take, h1], h2.take k, fun j vs hj => ?_⟩
  have hjk : j < k := by
    have := (List.getElem?_eq_some_iff.1 hj).1
    rw [List.length_take] at this
    omega
  rw [List.getElem?_take, if_pos hjk] at hj ⊢
  exact h3 j vs hj
theorem RdV.nil (w : World) : RdV w none 0 [] := ⟨[], rfl, RdA.nil w, by simp⟩
end
end Go.Proofs.YthjdejjejlhioaaGreatDoor.Base
namespace Go.Proofs.YthjdejjejlhioaaGreatDoor.Vol
open Go.Sort Go.RowKit Go.Proofs.YthjdejjejlhioaaGreatDoor.Str Go.Proofs.YthjdejjejlhioaaGreatDoor.Base Go.Proofs.YthjdejjejlhioaaGreatDoor.Node Go.Proofs.YthjdejjejlhioaaGreatDoor.Head Go.Proofs.YthjdejjejlhioaaGreatDoor.Long Go.Proofs.YthjdejjejlhioaaGreatDoor.Entry Go.Proofs.YthjdejjejlhioaaGreatDoor.LabelM Go.Proofs.YthjdejjejlhioaaGreatDoor.ContM Go.Proofs.YthjdejjejlhioaaGreatDoor.Stream Go.Proofs.YthjdejjejlhioaaGreatDoor.VolM
open Go.Proofs.YthjdejjejlhioaaGreatDoor.Tree (oneB mayT fewT)
set_option linter.unusedVariables false
abbrev LL := List (List UInt8)

/-! ### what a split's volumes are -/
theorem split_no {t : List Nd} {s : Sett} (h : (mayT t && mayS s) = false) : splitV t s = ([], 1) := by rw [splitV, if_neg (by simp [h])]
theorem split_few {t : List Nd} {s : Sett} {Q : List LL} {E : Int} (h : splitV t s = (Q, E)) : Q.length ≤ 12 := by
  by_cases hm : (mayT t && mayS s) = true
  · rw [Bool.and_eq_true] at hm
    have hc := chain_split hm.1 hm.2
    rw [h] at hc
    have h1 := (chain_count hc (Nat.zero_le _)).1
    have h2 := (mayS_iff.1 hm.2).2.2.2.1
    dsimp only at h1
    omega
  · rw [split_no (by simpa using hm)] at h
    cases h
    simp

/-! ### the chapter's example -/
def exS : Sett := ⟨[120], 2, [2]⟩
theorem exS_may : mayS exS = true := by decide
theorem exS_small : SmallS exS := by
  refine ⟨by decide, by decide, by decide, by decide, ?_⟩
  intro x hx
  simp [exS] at hx
  omega
theorem all_nil : allS [] = [nought, nought] := by
  unfold allS
  exact endsV_is
theorem ex_begin : beginL [] exS 0 1 = [lblK [120] 1] := by
  rw [beginL, goesOn, if_neg (by rw [whereL]; decide)]
  rfl
theorem ex_split : ∃ V : LL, splitV [] exS = ([V], 0) ∧ V.length = 4 := by
  have ha : (allS []).length = 2 := by rw [all_nil]; rfl
  refine ⟨volV [] exS 0 0 4, ?_, ?_⟩
  · rw [splitV, if_pos (by rw [exS_may]; rfl), ha, volsG, ha, if_neg (by omega)]
    show (if (4 : Nat) ≤ (beginL [] exS 0 ((0 : Nat) + 1)).length then _ else _) = _
    rw [show (((0 : Nat) : Int) + 1) = 1 from rfl, ex_begin, if_neg (by simp)]
    rw [vols_over (by rw [ha]; show 2 ≤ 0 + (4 - 1); omega)]
    rfl
  · rw [volV, show (((0 : Nat) : Int) + 1) = 1 from rfl, ex_begin, ha, all_nil]
    rfl
end Go.Proofs.YthjdejjejlhioaaGreatDoor.Vol

namespace Go.Proofs.YthjdejjejlhioaaGreatDoor.Vol
open Go.Sort Go.RowKit Go.Proofs.YthjdejjejlhioaaGreatDoor.Str Go.Proofs.YthjdejjejlhioaaGreatDoor.Base Go.Proofs.YthjdejjejlhioaaGreatDoor.Node Go.Proofs.YthjdejjejlhioaaGreatDoor.Head Go.Proofs.YthjdejjejlhioaaGreatDoor.Long Go.Proofs.YthjdejjejlhioaaGreatDoor.Entry Go.Proofs.YthjdejjejlhioaaGreatDoor.LabelM Go.Proofs.YthjdejjejlhioaaGreatDoor.ContM Go.Proofs.YthjdejjejlhioaaGreatDoor.Stream Go.Proofs.YthjdejjejlhioaaGreatDoor.VolM
open Go.Proofs.YthjdejjejlhioaaGreatDoor.Tree (oneB mayT fewT)
set_option linter.unusedVariables false

theorem many_two {t : List Nd} (h : mayT t = true) : 2 ≤ (allS t).length := by
  have := all_length h
  omega
theorem set_cells3 {w : World} {g : Nat} {t : TypeId} {s : Sett} {A : Option Addr} {k : Nat} (hb : Blk w g t (scells s A k)) :
    w.cell? ⟨g, 0, none⟩ = some (.string ⟨s.label.toArray⟩) ∧ w.cell? ⟨g, 1, none⟩ = some (.int .i64 s.b) ∧ w.cell? ⟨g, 2, none⟩ = some (.slice A s.caps.length k) := by
  refine ⟨?_, ?_, ?_⟩ <;> (rw [hb.cell]; rfl)
theorem lit_z (w : World) (x : Int) (e : TypeId) : RdZ (w.alloc (.cells #[.int .i64 x] e)) (some ⟨w.heap.size, 0, none⟩) 1 [x] := by
  have hb : Blk (w.alloc (.cells #[.int .i64 x] e)) w.heap.size e (zcs [x]).toArray := Blk.new w e #[.int .i64 x]
  exact (Base.Own.of_blk (lo := 0) hb (Nat.zero_le _) (n := 1) rfl (by unfold maxLen; omega)).rd
def fewS (s : Sett) : Bool := decide (s.label.length ≤ 200) && decide (s.caps.length ≤ 20)
set_option maxRecDepth 100000 in
theorem fews_v (s : Sett) (A : Option Addr) (k : Nat) (v : Value) (hv : v = sv s A k) (b : Bool) (hb : fewS s = b) (w : World) :
    Calls Tryz.prog 10 #[v] w fun e w' => e = .returned (.bool b) ∧ Stp w w' := by
  subst hv
  have h0 := Stp.alloc (Stp.refl w) (.cells (scells s A k) 25)
  obtain ⟨q0, q1, q2⟩ := set_cells3 (Blk.new w 25 (scells s A k))
  obtain ⟨b1, k1⟩ : ∃ b, decide ((s.label.length : Int) ≤ 200) = b := ⟨_, rfl⟩
  obtain ⟨b2, k2⟩ : ∃ b, decide ((s.caps.length : Int) ≤ 20) = b := ⟨_, rfl⟩
  have hb2 : (b1 && b2) = b := by
    rw [← hb, fewS, ← k1, ← k2]
    congr 1
    · exact decide_eq_decide.2 (by omega)
    · exact decide_eq_decide.2 (by omega)
  have HB := Lib.hid hb2
  clear hb hb2
  cases b1
  all_goals
    go_enter Tryz.func10, Tryz.ntmps10
    go_wp2_with fail
    go_ret
    exact ⟨by rw [← HB.out]; simp, h0⟩
theorem fewt_v (t : List Nd) (m : Nat) (hm : t.length = m) (hl : m < 9223372036854775808) (b : Bool) (hb : fewT t = b) (T : Option Addr) (ct : Nat) (w : World) (ht : RdN w T ct t) :
    Calls Tryz.prog 9 #[.slice T m ct] w fun e w' => e = .returned (.bool b) ∧ Stp w w' := by
  subst hm hb
  exact Tree.fewt_s t T ct w ht hl
end Go.Proofs.YthjdejjejlhioaaGreatDoor.Vol

namespace Go.Proofs.YthjdejjejlhioaaGreatDoor.Vol
open Go.Sort Go.RowKit Go.Proofs.YthjdejjejlhioaaGreatDoor.Str Go.Proofs.YthjdejjejlhioaaGreatDoor.Base Go.Proofs.YthjdejjejlhioaaGreatDoor.Node Go.Proofs.YthjdejjejlhioaaGreatDoor.Head Go.Proofs.YthjdejjejlhioaaGreatDoor.Long Go.Proofs.YthjdejjejlhioaaGreatDoor.Entry Go.Proofs.YthjdejjejlhioaaGreatDoor.LabelM Go.Proofs.YthjdejjejlhioaaGreatDoor.ContM Go.Proofs.YthjdejjejlhioaaGreatDoor.Stream Go.Proofs.YthjdejjejlhioaaGreatDoor.VolM
open Go.Proofs.YthjdejjejlhioaaGreatDoor.Tree (oneB mayT fewT)
set_option linter.unusedVariables false

end Go.Proofs.YthjdejjejlhioaaGreatDoor.Vol

namespace Go.Proofs.YthjdejjejlhioaaGreatDoor.Vol
open Go.Sort Go.RowKit Go.Proofs.YthjdejjejlhioaaGreatDoor.Str Go.Proofs.YthjdejjejlhioaaGreatDoor.Base Go.Proofs.YthjdejjejlhioaaGreatDoor.Node Go.Proofs.YthjdejjejlhioaaGreatDoor.Head Go.Proofs.YthjdejjejlhioaaGreatDoor.Long Go.Proofs.YthjdejjejlhioaaGreatDoor.Entry Go.Proofs.YthjdejjejlhioaaGreatDoor.LabelM Go.Proofs.YthjdejjejlhioaaGreatDoor.ContM Go.Proofs.YthjdejjejlhioaaGreatDoor.Stream Go.Proofs.YthjdejjejlhioaaGreatDoor.VolM
open Go.Proofs.YthjdejjejlhioaaGreatDoor.Tree (oneB mayT fewT)
set_option linter.unusedVariables false

theorem rsamev (ls ms : LL) (j k : Nat) (hj : ls.length = j) (hk : ms.length = k) (A B : Option Addr) (c d : Nat) (w : World) (ha : RdL w A c ls) (hb : RdL w B d ms) (hl : j < 9223372036854775808) (hm : k < 9223372036854775808) (b : Bool) (hb' : (ls == ms) = b) :
    Calls Tryz.prog 15 #[.slice A j c, .slice B k d] w fun e w' => e = .returned (.bool b) ∧ Stp w w' := by
  subst hj hk hb'
  exact Block.rsame_s ls ms A B c d w ha hb hl hm
abbrev AllI : Prop := ∀ (t : List Nd) (m : Nat), t.length = m → m ≤ 1000 → (∀ n ∈ t, SmallN n) → ∀ (l : LL), allS t = l → ∀ (N : Nat), l.length = N → ∀ (b : Bool), mayT t = b → ∀ (A : Option Addr) (c : Nat) (w : World), RdN w A c t →
    Calls Tryz.prog 12 #[.slice A m c] w fun e w' => ∃ B d, e = .returned (.tuple #[.slice B N d, .bool b]) ∧ RdL w' B d l ∧ Stp w w'
theorem split_yes {t : List Nd} {s : Sett} {Q : List LL} (h : splitV t s = (Q, 0)) : mayT t = true ∧ mayS s = true ∧ Chain t s 0 0 Q 0 := by
  by_cases hm : (mayT t && mayS s) = true
  · rw [Bool.and_eq_true] at hm
    have hc := chain_split hm.1 hm.2
    rw [h] at hc
    exact ⟨hm.1, hm.2, hc⟩
  · rw [split_no (by simpa using hm)] at h
    cases h
/-- Where the stream stands at a volume. -/
def At (t : List Nd) (s : Sett) (Q : List LL) (E : Int) (N pos n : Nat) : Prop := ∃ p, Chain t s p n (Q.drop n) E ∧ (p = pos ∨ (N ≤ pos ∧ N ≤ p))
end Go.Proofs.YthjdejjejlhioaaGreatDoor.Vol

namespace Go.Proofs.YthjdejjejlhioaaGreatDoor.Vol
open Go.Sort Go.RowKit Go.Proofs.YthjdejjejlhioaaGreatDoor.Str Go.Proofs.YthjdejjejlhioaaGreatDoor.Base Go.Proofs.YthjdejjejlhioaaGreatDoor.Node Go.Proofs.YthjdejjejlhioaaGreatDoor.Head Go.Proofs.YthjdejjejlhioaaGreatDoor.Long Go.Proofs.YthjdejjejlhioaaGreatDoor.Entry Go.Proofs.YthjdejjejlhioaaGreatDoor.LabelM Go.Proofs.YthjdejjejlhioaaGreatDoor.ContM Go.Proofs.YthjdejjejlhioaaGreatDoor.Stream Go.Proofs.YthjdejjejlhioaaGreatDoor.VolM
open Go.Proofs.YthjdejjejlhioaaGreatDoor.Tree (oneB mayT fewT)
set_option linter.unusedVariables false

end Go.Proofs.YthjdejjejlhioaaGreatDoor.Vol

