/-
  What the walks of package volume's laws ask of its code, the chapter's example, and whether a set is small: no statement is proved here. What the walks of volume's laws share: the statements' awake, and whether a set, or a tree, is small: no statement is proved here.
  Rows of numbers that a call makes by append, and the first volumes of several: no statement is proved here. What the walks of volume's laws ask of package stream, and the least room behind the beginnings: no statement is proved here. What a volume begins with, told again: no statement is proved here.
-/
import Derived.Test.YtllnnlmhbmladaaGreatDoorVolM
import Derived.Test.YtllnnlmhbmladaaGreatDoorTreeS
import Derived.Test.YtllnnlmhbmladaaGreatDoorEntrySl
import Derived.Lib.QuietBelow
import Derived.BigQuiet
import Derived.Deep.Cut
import Derived.Test.YtllnnlmhbmladaaGreatDoorBlockK
import Derived.Test.YtllnnlmhbmladaaGreatDoorBlockRef
namespace Go.Proofs.YtllnnlmhbmladaaGreatDoor.Base
open Go.RowKit
section
variable {w w' : World} {A : Option Addr} {cap : Nat} {vss : List (List (List UInt8))}
theorem RdV.keep (h : RdV w A cap vss) (hs : Stp w w') : RdV w' A cap vss := by
  obtain ⟨us, h1, h2, h3⟩ := h
  refine ⟨us, h1, h2.keep hs, fun j vs hj => ?_⟩
  obtain ⟨B, d, hu, hL⟩ := h3 j vs hj
  exact ⟨B, d, hu, hL.keep hs⟩
theorem RdV.at_ (h : RdV w A cap vss) {j : Nat} {vs : List (List UInt8)} (hj : vss[j]? = some vs) : ∃ b o B d, A = some ⟨b, o, none⟩ ∧ w.cell? ⟨b, o + j, none⟩ = some (.slice B vs.length d) ∧ RdL w B d vs := by
  obtain ⟨us, h1, h2, h3⟩ := h
  obtain ⟨B, d, hu, hL⟩ := h3 j vs hj
  obtain ⟨b, o, rfl, hc⟩ := h2.at_ (j := j) (List.getElem?_eq_some_iff.1 hu).1
  exact ⟨b, o, B, d, rfl, hc j _ hu, hL⟩
theorem RdV.le (h : RdV w A cap vss) : vss.length ≤ cap := by
  obtain ⟨us, h1, h2, -⟩ := h
  have := RdA.length_le h2
  omega
theorem RdV.take (h : RdV w A cap vss) (k : Nat) : RdV w A cap (vss.take k) := by
  obtain ⟨us, h1, h2, h3⟩ := h
  refine ⟨us.take k, by rw [List.length_take, List.length_take, h1], h2.take k, fun j vs hj => ?_⟩
  have hjk : j < k := by
    have := (List.getElem?_eq_some_iff.1 hj).1
    rw [List.length_take] at this
    omega
  rw [List.getElem?_take, if_pos hjk] at hj ⊢
  exact h3 j vs hj
theorem RdV.nil (w : World) : RdV w none 0 [] := ⟨[], rfl, RdA.nil w, by simp⟩
end
end Go.Proofs.YtllnnlmhbmladaaGreatDoor.Base
namespace Go.Proofs.YtllnnlmhbmladaaGreatDoor.Vol
open Go.Sort Go.RowKit Go.Proofs.YtllnnlmhbmladaaGreatDoor.Str Go.Proofs.YtllnnlmhbmladaaGreatDoor.Base Go.Proofs.YtllnnlmhbmladaaGreatDoor.Node Go.Proofs.YtllnnlmhbmladaaGreatDoor.Head Go.Proofs.YtllnnlmhbmladaaGreatDoor.Long Go.Proofs.YtllnnlmhbmladaaGreatDoor.Entry Go.Proofs.YtllnnlmhbmladaaGreatDoor.LabelM Go.Proofs.YtllnnlmhbmladaaGreatDoor.ContM Go.Proofs.YtllnnlmhbmladaaGreatDoor.Stream Go.Proofs.YtllnnlmhbmladaaGreatDoor.VolM
open Go.Proofs.YtllnnlmhbmladaaGreatDoor.Tree (oneB mayT fewT)
set_option linter.unusedVariables false
abbrev LL := List (List UInt8)

/-! ### what a split's volumes are -/
theorem split_no {t : List Nd} {s : Sett} (h : (mayT t && mayS s) = false) : splitV t s = ([], 1) := by rw [splitV, if_neg (by simp [h])]
theorem split_small {t : List Nd} {s : Sett} {Q : List LL} {E : Int} (h : splitV t s = (Q, E)) : ∀ x ∈ Q, x.length ≤ 4000 := by
  intro x hx
  by_cases hm : (mayT t && mayS s) = true
  · rw [Bool.and_eq_true] at hm
    have hc := chain_split hm.1 hm.2
    rw [h] at hc
    obtain ⟨i, hi⟩ := List.mem_iff_getElem?.1 hx
    obtain ⟨c, h1, h2, h3, -⟩ := chain_room hm.2 hc i x hi
    have h4 := cap_ok hm.2 h1
    obtain ⟨-, b1, b2, -, -⟩ := mayS_iff.1 hm.2
    have h5 : s.b * c ≤ 20 * 200 := Int.mul_le_mul b2 h4.2 h4.1 (by omega)
    omega
  · rw [split_no (by simpa using hm)] at h
    cases h
    cases hx
theorem split_few {t : List Nd} {s : Sett} {Q : List LL} {E : Int} (h : splitV t s = (Q, E)) : Q.length ≤ 12 := by
  by_cases hm : (mayT t && mayS s) = true
  · rw [Bool.and_eq_true] at hm
    have hc := chain_split hm.1 hm.2
    rw [h] at hc
    have h1 := (chain_count hc (Nat.zero_le _)).1
    have h2 := (mayS_iff.1 hm.2).2.2.2.1
    dsimp only at h1
    omega
  · rw [split_no (by simpa using hm)] at h
    cases h
    simp

/-! ### the chapter's example -/
def exS : Sett := ⟨[120], 2, [2]⟩
theorem exS_may : mayS exS = true := by decide
theorem exS_small : SmallS exS := by
  refine ⟨by decide, by decide, by decide, by decide, ?_⟩
  intro x hx
  simp [exS] at hx
  omega
theorem all_nil : allS [] = [nought, nought] := by
  unfold allS
  exact endsV_is
theorem ex_begin : beginL [] exS 0 1 = [lblK [120] 1] := by
  rw [beginL, goesOn, if_neg (by rw [whereL]; decide)]
  rfl
theorem ex_split : ∃ V : LL, splitV [] exS = ([V], 0) ∧ V.length = 4 := by
  have ha : (allS []).length = 2 := by rw [all_nil]; rfl
  refine ⟨volV [] exS 0 0 4, ?_, ?_⟩
  · rw [splitV, if_pos (by rw [exS_may]; rfl), ha, volsG, ha, if_neg (by omega)]
    show (if (4 : Nat) ≤ (beginL [] exS 0 ((0 : Nat) + 1)).length then _ else _) = _
    rw [show (((0 : Nat) : Int) + 1) = 1 from rfl, ex_begin, if_neg (by simp)]
    rw [vols_over (by rw [ha]; show 2 ≤ 0 + (4 - 1); omega)]
    rfl
  · rw [volV, show (((0 : Nat) : Int) + 1) = 1 from rfl, ex_begin, ha, all_nil]
    rfl
theorem ex_beginV : beginV [] exS 0 1 = [lblK [120] 1] ∧ beginB [] exS 0 1 = true := by
  have ha : (allS []).length = 2 := by rw [all_nil]; rfl
  have hb : beginB [] exS 0 1 = true := by
    rw [beginB_iff]
    exact ⟨rfl, exS_may, by decide, by decide, by rw [ha]; decide⟩
  exact ⟨by rw [beginV_yes hb]; exact ex_begin, hb⟩
theorem ex_needs : needsV [] exS = 1 := by
  obtain ⟨V, h, -⟩ := ex_split
  rw [needsV, h]
  rfl
end Go.Proofs.YtllnnlmhbmladaaGreatDoor.Vol

namespace Go.Proofs.YtllnnlmhbmladaaGreatDoor.Vol
open Go.Sort Go.RowKit Go.Proofs.YtllnnlmhbmladaaGreatDoor.Str Go.Proofs.YtllnnlmhbmladaaGreatDoor.Base Go.Proofs.YtllnnlmhbmladaaGreatDoor.Node Go.Proofs.YtllnnlmhbmladaaGreatDoor.Head Go.Proofs.YtllnnlmhbmladaaGreatDoor.Long Go.Proofs.YtllnnlmhbmladaaGreatDoor.Entry Go.Proofs.YtllnnlmhbmladaaGreatDoor.LabelM Go.Proofs.YtllnnlmhbmladaaGreatDoor.ContM Go.Proofs.YtllnnlmhbmladaaGreatDoor.Stream Go.Proofs.YtllnnlmhbmladaaGreatDoor.VolM
open Go.Proofs.YtllnnlmhbmladaaGreatDoor.Tree (oneB mayT fewT)
set_option linter.unusedVariables false

theorem many_two {t : List Nd} (h : mayT t = true) : 2 ≤ (allS t).length := by
  have := all_length h
  omega
theorem set_cells3 {w : World} {g : Nat} {t : TypeId} {s : Sett} {A : Option Addr} {k : Nat} (hb : Blk w g t (scells s A k)) :
    w.cell? ⟨g, 0, none⟩ = some (.string ⟨s.label.toArray⟩) ∧ w.cell? ⟨g, 1, none⟩ = some (.int .i64 s.b) ∧ w.cell? ⟨g, 2, none⟩ = some (.slice A s.caps.length k) := by
  refine ⟨?_, ?_, ?_⟩ <;> (rw [hb.cell]; rfl)
theorem lit_z (w : World) (x : Int) (e : TypeId) : RdZ (w.alloc (.cells #[.int .i64 x] e)) (some ⟨w.heap.size, 0, none⟩) 1 [x] := by
  have hb : Blk (w.alloc (.cells #[.int .i64 x] e)) w.heap.size e (zcs [x]).toArray := Blk.new w e #[.int .i64 x]
  exact (Base.Own.of_blk (lo := 0) hb (Nat.zero_le _) (n := 1) rfl (by unfold maxLen; omega)).rd
def fewS (s : Sett) : Bool := decide (s.label.length ≤ 200) && decide (s.caps.length ≤ 20)
theorem fewS_iff {s : Sett} : fewS s = true ↔ s.label.length ≤ 200 ∧ s.caps.length ≤ 20 := by simp [fewS]
end Go.Proofs.YtllnnlmhbmladaaGreatDoor.Vol

namespace Go.Proofs.YtllnnlmhbmladaaGreatDoor.Vol
open Go.Sort Go.RowKit Go.Proofs.YtllnnlmhbmladaaGreatDoor.Str Go.Proofs.YtllnnlmhbmladaaGreatDoor.Base Go.Proofs.YtllnnlmhbmladaaGreatDoor.Node Go.Proofs.YtllnnlmhbmladaaGreatDoor.Head Go.Proofs.YtllnnlmhbmladaaGreatDoor.Long Go.Proofs.YtllnnlmhbmladaaGreatDoor.Entry Go.Proofs.YtllnnlmhbmladaaGreatDoor.LabelM Go.Proofs.YtllnnlmhbmladaaGreatDoor.ContM Go.Proofs.YtllnnlmhbmladaaGreatDoor.Stream Go.Proofs.YtllnnlmhbmladaaGreatDoor.VolM
open Go.Proofs.YtllnnlmhbmladaaGreatDoor.Tree (oneB mayT fewT)
set_option linter.unusedVariables false

theorem int_info : (Tryz.prog.info? 3).map (fun i => (i.zero, i.size, i.bytes)) = some (some (.int .i64 0), 1, 8) := by kernel_rfl
theorem wpList_append_z {P : Program} {w w0 : World} {lo : Nat} {ops : Array Oper} {rest : List Oper} {o : Oper} {a : Act} {Q : Exit → Act → World → Prop} (hgd : o.guard = none) (sO xO : Operand) (t e : TypeId)
    (ho : o.op = .call { callee := .builtin .append, args := #[sO, xO], argTypes := #[t, t] }) (ht : P.underlying t = some (.slice e)) (hi : (P.info? e).map (fun i => (i.zero, i.size, i.bytes)) = some (some (.int .i64 0), 1, 8))
    (v : Value) (xs ys : List Int) (hs : a.eval sO = v) (hown : Base.Own w lo e v (zcs xs)) (u : Value) (hx : a.eval xO = u) {B : Nat} (hr : Rd w B u (zcs ys)) (hl : xs.length + ys.length ≤ 1000) (hlo : lo ≤ w.heap.size) (h0 : Stp w0 w) (hl0 : w0.heap.size ≤ lo)
    (h : ∀ v' w', Base.Own w' lo e v' (zcs (xs ++ ys)) → Stp w0 w' → wpList P ops Q rest (a.put o.dst v') w') : wpList P ops Q (o :: rest) a w := by
  refine wpList_append_rd w hgd sO xO t ho lo e (.int .i64 0) 8 ht hi rfl v (zcs xs) hs hown B u (zcs ys) hx hr (zcs_one ys) (by rw [zcs_length, zcs_length]; unfold maxLen; omega) (by rw [zcs_length, zcs_length]; omega) hlo ?_
  intro v' w' h1 h2 _
  rw [← zcs_append] at h1
  exact h v' w' h1 (Below.grown h0 h2 h0.size fun j hj => Nat.le_trans hl0 (hown.lt j hj).1)
theorem own_set {w : World} {lo : Nat} {e : TypeId} {v : Value} {xs : List Value} (h : Base.Own w lo e v xs) {p : Addr} (hp : p.block < lo) (u : Value) : Base.Own (w.setCell p u) lo e v xs := by
  rcases h with h | ⟨g, cap, cur, fz, h1, h2, h3, h4⟩
  · exact .inl h
  · exact .inr ⟨g, cap, cur, fz, h1, h2, (Below.heap_setCell w p u g (by omega)).trans h3, h4⟩
theorem own_rdz {w : World} {lo : Nat} {e : TypeId} {v : Value} {xs : List Int} (h : Base.Own w lo e v (zcs xs)) : ∃ A k, v = .slice A xs.length k ∧ RdZ w A k xs := by
  obtain ⟨A, k, hv, hA⟩ := RdA.of h.rd
  rw [zcs_length] at hv
  exact ⟨A, k, hv, hA⟩
theorem own_rdz_n {w : World} {lo : Nat} {e : TypeId} {v : Value} {xs : List Int} {n : Nat} (h : Base.Own w lo e v (zcs xs)) (hn : xs.length = n) : ∃ A k, v = .slice A n k ∧ RdZ w A k xs := by
  subst hn
  exact own_rdz h
theorem rdz_val {w : World} {A : Option Addr} {k n : Nat} {xs : List Int} (h : RdZ w A k xs) (hn : xs.length = n) : Rd w w.heap.size (.slice A n k) (zcs xs) := by
  subst hn
  have h2 : RdA w A k (zcs xs) := h
  unfold RdA at h2
  rwa [zcs_length] at h2
theorem rdV_none (w : World) (A : Option Addr) (c : Nat) : RdV w A c [] := ⟨[], rfl, ⟨A, c, rfl, Nat.zero_le _, fun h => absurd rfl h⟩, by simp⟩
theorem sl3_size (w : World) : (sizeOf 36).run Tryz.prog w = .ok 1 w := by
  have hi : (Tryz.prog.info? 36).map (·.size) = some 1 := by kernel_rfl
  cases hq : Tryz.prog.info? 36 with
  | none => simp [hq] at hi
  | some i =>
    have : i.size = 1 := by simpa [hq] using hi
    simp [sizeOf, typeInfo, hq, this]
/-- The first volumes. -/
theorem slice3 (A : Option Addr) (N c k : Nat) (hk : k ≤ c) : ∃ A', (∀ w : World, (Instr.slice 48 (.slice A N c) none (some (.int .i64 (k : Int))) none).run Tryz.prog w = .ok (.slice A' k c) w) ∧
    ∀ (w : World) (vss : List LL), RdV w A c vss → RdV w A' c (vss.take k) := by
  have he : Tryz.prog.elem 48 = 36 := by kernel_rfl
  by_cases hc : c = 0
  · refine ⟨A, fun w => ?_, fun w vss h => h.take k⟩
    rw [run_slice_h (P := Tryz.prog) w 48 _ _ _ (by rw [he]; exact Tryz.underlying48) .i64 k (by omega) (by omega), he, sl3_size]
    simp only [Result.andThen_ok, sliced]
    rw [if_pos (by omega)]
    subst hc
    obtain rfl : k = 0 := by omega
    rfl
  · refine ⟨A.map fun x => x.add 0, fun w => ?_, fun w vss h => ?_⟩
    · rw [run_slice_h (P := Tryz.prog) w 48 _ _ _ (by rw [he]; exact Tryz.underlying48) .i64 k (by omega) (by omega), he, sl3_size]
      simp only [Result.andThen_ok, sliced]
      rw [if_neg (by omega)]
      simp only [Int.toNat_natCast, Nat.zero_mul, Nat.sub_zero]
    · cases vss with
      | nil =>
        rw [List.take_nil]
        exact rdV_none _ _ _
      | cons v vs =>
        obtain ⟨b, o, B, d, rfl, -, -⟩ := h.at_ (j := 0) (vs := v) rfl
        simp only [Option.map_some, Addr.add_lit, Nat.add_zero]
        exact h.take k
/-- With more capacities behind. -/
theorem more_facts {t : List Nd} {s x : Sett} {more : List Int} (hl : x.label = s.label) (hb : x.b = s.b) (hc : x.caps = s.caps ++ more) (hx : mayS x = true) {P R : List LL} {E F : Int} (hP : splitV t s = (P, E)) (hR : splitV t x = (R, F)) :
    P.length ≤ R.length ∧ (E = 0 → R.length = P.length) ∧ (E ≠ 14 → F = E) ∧ (P == R.take P.length) = true := by
  obtain ⟨x1, x2, x3, x4, x5⟩ := mayS_iff.1 hx
  have hs : mayS s = true := mayS_iff.2 ⟨by rw [← hl]; exact x1, by omega, by omega, by rw [hc, List.length_append] at x4; omega, fun y hy => x5 y (by rw [hc]; exact List.mem_append_left _ hy)⟩
  cases ht : mayT t
  · rw [split_no (by rw [ht]; rfl)] at hP hR
    cases hP
    cases hR
    exact ⟨Nat.le_refl _, fun _ => rfl, fun _ => rfl, rfl⟩
  · have c1 := chain_split ht hs
    have c2 := chain_split ht hx
    rw [hP] at c1
    rw [hR] at c2
    obtain ⟨us, e1, e2⟩ := chain_more hl hb hc c1 c2 (Nat.zero_le _)
    dsimp only at e1 e2
    subst e1
    refine ⟨by rw [List.length_append]; omega, fun h => ?_, fun h => (e2 h).2, by rw [List.take_left]; exact beq_self_eq_true _⟩
    rw [(e2 (by omega)).1, List.append_nil]
theorem small_facts {t : List Nd} {s x : Sett} (hl : x.label = s.label) (hb : x.b = s.b) (hc : x.caps = s.caps ++ [0]) (hs : mayS s = true) (hx : mayS x = true) {P R : List LL} {F : Int} (hP : splitV t s = (P, 14)) (hR : splitV t x = (R, F)) : F = 13 ∧ (R == P) = true := by
  cases ht : mayT t
  · rw [split_no (by rw [ht]; rfl)] at hP
    cases hP
  · have c1 := chain_split ht hs
    have c2 := chain_split ht hx
    rw [hP] at c1
    rw [hR] at c2
    obtain ⟨e1, e2⟩ := chain_zero hl hb hc c1 c2 (Nat.zero_le _) rfl
    exact ⟨e2, by dsimp only at e1; rw [e1]; exact beq_self_eq_true _⟩
theorem split_some {t : List Nd} {s : Sett} {Q : List LL} (h : splitV t s = (Q, 0)) : 1 ≤ Q.length := by
  by_cases hm : (mayT t && mayS s) = true
  · rw [Bool.and_eq_true] at hm
    have hc := chain_split hm.1 hm.2
    rw [h] at hc
    dsimp only at hc
    cases Q with
    | nil =>
      rcases chain_nil hc with ⟨-, a⟩ | ⟨a, -⟩
      · have h9 := many_two hm.1
        omega
      · exact absurd rfl a
    | cons v vs => simp
  · rw [split_no (by simpa using hm)] at h
    cases h
theorem none_facts {t : List Nd} {s y : Sett} (hl : y.label = s.label) (hb : y.b = s.b) (hc : y.caps = []) (hs : mayS s = true) (ht : mayT t = true) {P : List LL} {E : Int} (hP : splitV t y = (P, E)) : E = 14 ∧ P = [] := by
  obtain ⟨x1, x2, x3, x4, x5⟩ := mayS_iff.1 hs
  have hy : mayS y = true := mayS_iff.2 ⟨by rw [hl]; exact x1, by omega, by omega, by rw [hc]; simp, fun z hz => by rw [hc] at hz; cases hz⟩
  have c1 := chain_split ht hy
  rw [hP] at c1
  have h2 := many_two ht
  cases c1 with
  | done h => omega
  | media _ _ => exact ⟨rfl, rfl⟩
  | small _ h _ => rw [hc] at h; simp at h
  | more _ h _ _ => rw [hc] at h; simp at h
end Go.Proofs.YtllnnlmhbmladaaGreatDoor.Vol

namespace Go.Proofs.YtllnnlmhbmladaaGreatDoor.Vol
open Go.Sort Go.RowKit Go.Proofs.YtllnnlmhbmladaaGreatDoor.Str Go.Proofs.YtllnnlmhbmladaaGreatDoor.Base Go.Proofs.YtllnnlmhbmladaaGreatDoor.Node Go.Proofs.YtllnnlmhbmladaaGreatDoor.Head Go.Proofs.YtllnnlmhbmladaaGreatDoor.Long Go.Proofs.YtllnnlmhbmladaaGreatDoor.Entry Go.Proofs.YtllnnlmhbmladaaGreatDoor.LabelM Go.Proofs.YtllnnlmhbmladaaGreatDoor.ContM Go.Proofs.YtllnnlmhbmladaaGreatDoor.Stream Go.Proofs.YtllnnlmhbmladaaGreatDoor.VolM
open Go.Proofs.YtllnnlmhbmladaaGreatDoor.Tree (oneB mayT fewT)
set_option linter.unusedVariables false

abbrev AllI : Prop := ∀ (t : List Nd) (m : Nat), t.length = m → m ≤ 1000 → (∀ n ∈ t, SmallN n) → ∀ (l : LL), allS t = l → ∀ (N : Nat), l.length = N → ∀ (b : Bool), mayT t = b → ∀ (A : Option Addr) (c : Nat) (w : World), RdN w A c t →
    Calls Tryz.prog 25 #[.slice A m c] w fun e w' => ∃ B d, e = .returned (.tuple #[.slice B N d, .bool b]) ∧ RdL w' B d l ∧ Stp w w'
theorem split_yes {t : List Nd} {s : Sett} {Q : List LL} (h : splitV t s = (Q, 0)) : mayT t = true ∧ mayS s = true ∧ Chain t s 0 0 Q 0 := by
  by_cases hm : (mayT t && mayS s) = true
  · rw [Bool.and_eq_true] at hm
    have hc := chain_split hm.1 hm.2
    rw [h] at hc
    exact ⟨hm.1, hm.2, hc⟩
  · rw [split_no (by simpa using hm)] at h
    cases h
/-- The least room behind a beginning, of the first j volumes. -/
def leastV (s : Sett) : Nat → Int
  | 0 => s.b * 200
  | j + 1 => if s.b * s.caps.getD j 0 - 4 < leastV s j then s.b * s.caps.getD j 0 - 4 else leastV s j
theorem least_le (s : Sett) : ∀ (j i : Nat), i < j → leastV s j ≤ s.b * s.caps.getD i 0 - 4
  | 0, i, h => by omega
  | j + 1, i, h => by
    rw [leastV]
    by_cases e : i = j
    · subst e
      split <;> omega
    · have := least_le s j i (by omega)
      split <;> omega
theorem prod_le {s : Sett} (hs : mayS s = true) {j : Nat} {c : Int} (hc : s.caps[j]? = some c) : 0 ≤ s.b * c ∧ s.b * c ≤ 4000 := by
  obtain ⟨c1, c2⟩ := cap_ok hs hc
  obtain ⟨-, b1, b2, -, -⟩ := mayS_iff.1 hs
  exact ⟨Int.mul_nonneg (by omega) c1, by have : s.b * c ≤ 20 * 200 := Int.mul_le_mul b2 c2 c1 (by omega); omega⟩
theorem caps_getD {s : Sett} {j : Nat} {c : Int} (hc : s.caps[j]? = some c) : s.caps.getD j 0 = c := by rw [List.getD_eq_getElem?_getD, hc]; rfl
theorem least_in {s : Sett} (hs : mayS s = true) : ∀ (j : Nat), j ≤ s.caps.length → -4 ≤ leastV s j ∧ leastV s j ≤ 4000
  | 0, _ => by
    obtain ⟨-, b1, b2, -, -⟩ := mayS_iff.1 hs
    rw [leastV]
    omega
  | j + 1, h => by
    have h1 := least_in hs j (by omega)
    have hc : s.caps[j]? = some (s.caps[j]'(by omega)) := List.getElem?_eq_getElem (by omega)
    have h2 := prod_le hs hc
    rw [leastV, caps_getD hc]
    split <;> omega
theorem bound_facts {t : List Nd} {s : Sett} {Q : List LL} {z N : Nat} (h : splitV t s = (Q, 0)) (hz : Q.length = z) (hN : (allS t).length = N) :
    1 ≤ z ∧ z ≤ s.caps.length ∧ z ≤ N ∧ (1 ≤ leastV s z → ((z : Int) - 1) * leastV s z < (N : Int)) := by
  obtain ⟨ht, hs, hc⟩ := split_yes h
  have h1 := split_some h
  have h2 := (chain_count hc (Nat.zero_le _)).1
  have h3 := chain_few hc
  rw [hz] at h1
  rw [hz, Nat.zero_add] at h2
  rw [hz, hN] at h3
  refine ⟨h1, h2, ?_, fun hl => ?_⟩
  · rcases h3 with e | e
    · rw [e] at hz
      simp at hz
      omega
    · omega
  · obtain ⟨m, hm⟩ : ∃ m : Nat, leastV s z = (m : Int) := ⟨(leastV s z).toNat, by omega⟩
    have h4 := chain_bound hs hc m (fun i c hi hcc => by
      rw [Nat.zero_add] at hcc
      rw [hz] at hi
      have h5 := least_le s z i hi
      rw [caps_getD hcc, hm] at h5
      omega)
    rcases h4 with e | e
    · rw [e] at hz
      simp at hz
      omega
    · rw [hz, hN, Nat.zero_add] at e
      rw [hm]
      have e2 : ((z : Int) - 1) = ((z - 1 : Nat) : Int) := by omega
      rw [e2, ← Int.natCast_mul]
      omega
theorem last_facts {t : List Nd} {s : Sett} {Q : List LL} {z N : Nat} (h : splitV t s = (Q, 0)) (hz : Q.length = z) (hN : (allS t).length = N) :
    1 ≤ z ∧ ∃ v, Q[z - 1]? = some v ∧ 2 ≤ v.length ∧ v[v.length - 1]? = some nought ∧ N + z ≤ (Q.map List.length).sum ∧ (((Q.map List.length).sum : Nat) : Int) - (N : Int) ≤ 4 * (z : Int) + s.b - 1 := by
  obtain ⟨ht, hs, hc⟩ := split_yes h
  have h1 := split_some h
  have h2 := many_two ht
  obtain ⟨-, b1, -, -, -⟩ := mayS_iff.1 hs
  obtain ⟨⟨v, e1, e2⟩, e3, e4⟩ := chain_last ht hs hc rfl (by omega)
  rw [List.getLast?_eq_getElem?] at e1 e2
  rw [hz] at h1 e1 e3 e4
  rw [hN] at e3 e4
  obtain ⟨c, -, g, -⟩ := chain_room hs hc _ v e1
  exact ⟨h1, v, e1, g, e2, by omega, by omega⟩
theorem sum_step {Q : List LL} {j : Nat} {v : LL} (h : Q[j]? = some v) : ((Q.take (j + 1)).map List.length).sum = ((Q.take j).map List.length).sum + v.length := by
  rw [List.take_add_one, h]
  simp
theorem sum_few {Q : List LL} {M : Nat} (h : ∀ x ∈ Q, x.length ≤ M) : (Q.map List.length).sum ≤ Q.length * M := by
  induction Q with
  | nil => simp
  | cons x xs ih =>
    have h1 := h x (by simp)
    have h2 := ih fun y hy => h y (by simp [hy])
    simp only [List.map_cons, List.sum_cons, List.length_cons, Nat.succ_mul]
    omega
theorem nought_at (j : Nat) (hj : j < 512) : (bs nought)[j]? = some (.int .u8 0) := by
  have e : bs nought = List.replicate 512 (.int .u8 0) := by
    show (List.replicate 512 (0 : UInt8)).map _ = _
    rw [List.map_replicate]
    rfl
  rw [e, List.getElem?_replicate, if_pos hj]
/-- Where the stream stands at a volume. -/
def At (t : List Nd) (s : Sett) (Q : List LL) (E : Int) (N pos n : Nat) : Prop := ∃ p, Chain t s p n (Q.drop n) E ∧ (p = pos ∨ (N ≤ pos ∧ N ≤ p))
theorem at_next {t : List Nd} {s : Sett} (ht : mayT t = true) (hs : mayS s = true) {Q : List LL} {E : Int} {N pos n : Nat} (hN : (allS t).length = N) (h : At t s Q E N pos n) {v : LL} (hv : Q[n]? = some v) :
    pos < N ∧ beginB t s (pos : Int) ((n : Int) + 1) = true ∧ ∃ rest, v = beginL t s pos ((n : Int) + 1) ++ rest ∧ 1 ≤ rest.length ∧
      (∀ (k : Nat) (x : List UInt8), rest[k]? = some x → (pos + k < N ∧ (allS t)[pos + k]? = some x) ∨ (N ≤ pos + k ∧ x = nought)) ∧ At t s Q E N (pos + rest.length) (n + 1) := by
  obtain ⟨p, hc, hp⟩ := h
  obtain ⟨hlt, e⟩ := List.getElem?_eq_some_iff.1 hv
  rw [List.drop_eq_getElem_cons hlt, e] at hc
  obtain ⟨h1, h2, rest, h3, h4, h5, p2, h6, h7⟩ := chain_next hs hc
  rw [hN] at h1 h5 h7
  obtain rfl : p = pos := by omega
  have h12 := (mayS_iff.1 hs).2.2.2.1
  refine ⟨h1, beginB_iff.2 ⟨ht, hs, label_may hs (by omega), by omega, by rw [hN]; omega⟩, rest, h3, h4, h5, p2, h6, ?_⟩
  omega
theorem at_end {t : List Nd} {s : Sett} {Q : List LL} {E : Int} {N pos n : Nat} (hN : (allS t).length = N) (h : At t s Q E N pos n) (hn : Q.length = n) : (E == 0) = decide (N ≤ pos) := by
  obtain ⟨p, hc, hp⟩ := h
  rw [List.drop_eq_nil_of_le (by omega)] at hc
  rcases chain_nil hc with ⟨e, h⟩ | ⟨e, h⟩
  · rw [hN] at h
    rw [e, decide_eq_true (by omega)]
    rfl
  · rw [hN] at h
    rw [decide_eq_false (by omega)]
    simpa using e
end Go.Proofs.YtllnnlmhbmladaaGreatDoor.Vol

namespace Go.Proofs.YtllnnlmhbmladaaGreatDoor.Vol
open Go.Sort Go.RowKit Go.Proofs.YtllnnlmhbmladaaGreatDoor.Str Go.Proofs.YtllnnlmhbmladaaGreatDoor.Base Go.Proofs.YtllnnlmhbmladaaGreatDoor.Node Go.Proofs.YtllnnlmhbmladaaGreatDoor.Head Go.Proofs.YtllnnlmhbmladaaGreatDoor.Long Go.Proofs.YtllnnlmhbmladaaGreatDoor.Entry Go.Proofs.YtllnnlmhbmladaaGreatDoor.LabelM Go.Proofs.YtllnnlmhbmladaaGreatDoor.ContM Go.Proofs.YtllnnlmhbmladaaGreatDoor.Stream Go.Proofs.YtllnnlmhbmladaaGreatDoor.VolM
open Go.Proofs.YtllnnlmhbmladaaGreatDoor.Tree (oneB mayT fewT)
set_option linter.unusedVariables false

theorem beginV_le (t : List Nd) (s : Sett) (pos n : Int) : (beginV t s pos n).length ≤ 4 := by
  rw [beginV]
  split
  · exact begin_le t s _ n
  · simp
theorem begin_facts {t : List Nd} {s : Sett} {pos n : Int} (h : beginB t s pos n = true) :
    ∃ (b : List UInt8) (g : LL) (k j : Int), beginV t s pos n = b :: g ∧ b.length = 512 ∧ getL b = (s.label, n, 0) ∧ whereS t pos = (k, j) ∧ 0 ≤ k ∧
      ((j < 0 ∧ g = []) ∨ (0 ≤ j ∧ ∃ (i : Nat) (nd : Nd), k = (i : Int) ∧ t[i]? = some nd ∧ 512 * j < 5000 ∧ (∀ x ∈ g, x.length = 512) ∧ getC g = (bare nd, 512 * j, (nd.data.length : Int), (g.length : Int), true))) := by
  obtain ⟨h1, h2, h3, h4, h5⟩ := beginB_iff.1 h
  have hw : whereS t pos = whereL t 0 pos.toNat := by unfold whereS; rw [if_pos ⟨h4, h5⟩]
  obtain ⟨⟨k0, e1, e2⟩, -⟩ := where_may h1 pos.toNat
  refine ⟨lblK s.label n, goesOn t pos.toNat, (whereL t 0 pos.toNat).1, (whereL t 0 pos.toNat).2, by rw [beginV_yes h]; rfl, blk_length (name_may h3).1 (name_may h3).2, getL_put h3, hw, by rw [e1]; omega, ?_⟩
  by_cases hj : (whereL t 0 pos.toNat).2 < 0
  · exact .inl ⟨hj, goes_none hj⟩
  · obtain ⟨i, nd, a1, a2, a3, a4, a5⟩ := goes_get h1 (by omega : 0 ≤ (whereL t 0 pos.toNat).2)
    obtain ⟨b1, b2, b3, -⟩ := mayC_iff.1 a4
    have b4 := (oneF (isFile_iff.1 b1).1).data
    exact .inr ⟨by omega, i, nd, a2, a1, by omega, fun x hx => BlockM.mayV_iff.1 (goes_may t pos.toNat) x hx, a5⟩
end Go.Proofs.YtllnnlmhbmladaaGreatDoor.Vol

