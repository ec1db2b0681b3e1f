/-
  The walk of the statement ReadGathers over package read's contracts.
-/
import Derived.Test.YtgjdbbhfgfodlaaGreatReadI
import Derived.Test.YtgjdbbhfgfodlaaGreatParseApp
import Derived.BigQuiet
import Derived.Deep.Cut
import Derived.Deep.QuietTactic
namespace Go.Proofs.YtgjdbbhfgfodlaaGreat.Read
open Go.RowKit Go.Proofs.YtgjdbbhfgfodlaaGreat.Str Go.Proofs.YtgjdbbhfgfodlaaGreat.Base Go.Proofs.YtgjdbbhfgfodlaaGreat.Node
open Go.Proofs.YtgjdbbhfgfodlaaGreat.Parse (Evt RdE RowE)
open Go.Proofs.YtgjdbbhfgfodlaaGreat.Long (fewN)

/-- Of events there are few, of few bytes. -/
def fewX (x : Evt) : Bool := fewN x.node && decide (x.data.length ≤ 600)
def fewE (l : List Evt) : Bool := decide (l.length ≤ 60) && l.all fewX
theorem fewE_iff {l : List Evt} : fewE l = true ↔ l.length ≤ 60 ∧ ∀ x ∈ l, fewX x = true := by simp [fewE]
theorem fewX_bytes {x : Evt} (h : fewX x = true) : BytesE x := by
  unfold fewX fewN at h
  simp only [Bool.and_eq_true, decide_eq_true_eq] at h
  exact ⟨by omega, by omega⟩
theorem fewE_no {l : List Evt} {k : Nat} {x : Evt} (hk : l[k]? = some x) (h : fewX x = false) : fewE l = false := by
  rw [Bool.eq_false_iff]
  intro hf
  rw [(fewE_iff.1 hf).2 x (List.mem_of_getElem? hk)] at h
  cases h
theorem all_next {l : List Evt} {k : Nat} {x : Evt} (hk : l[k]? = some x) (hn : fewX x = true) (h : ∀ (j : Nat) (m : Evt), j < k → l[j]? = some m → fewX m = true) : ∀ (j : Nat) (m : Evt), j < k + 1 → l[j]? = some m → fewX m = true := by
  intro j m hj hm
  by_cases e : j = k
  · subst e
    rw [hk] at hm
    cases hm
    exact hn
  · exact h j m (by omega) hm
set_option maxRecDepth 100000 in
set_option maxHeartbeats 2000000 in
theorem fewe_s (l : List Evt) (n : Nat) (hn : l.length = n) (hl : n < 9223372036854775808) (A : Option Addr) (c : Nat) (w : World) (ha : RdE w A c l) :
    Calls Tryz.prog 5 #[.slice A n c] w fun e w' => e = .returned (.bool (fewE l)) ∧ Stp w w' := by
  obtain ⟨R, hR⟩ : ∃ R, fewE l = R := ⟨_, rfl⟩
  have HR := Lib.hid hR
  rw [hR]
  have Ha := Lib.hid ha
  have HN := Lib.hid hn
  clear hR ha hn
  go_enter Tryz.func5, Tryz.ntmps5
  go_wp2_with fail
  go_loopw [3] (fun i wr => ∃ k : Nat, k ≤ n ∧ k ≤ 61 ∧ i = .int .i64 (k : Int) ∧ Hid (Stp w wr) ∧ Hid (∀ (j : Nat) (m : Evt), j < k → l[j]? = some m → fewX m = true)) (fun i _ => n - (intOf i).toNat)
  case atStart => exact ⟨0, by omega, by omega, rfl, Lib.hid (Stp.refl w), Lib.hid (fun j m hj => by omega)⟩
  case round =>
    obtain ⟨k, hk, hk31, rfl, H1, Hy⟩ := hrel
    by_cases hlt : k < n
    · by_cases h30 : k ≤ 60
      · obtain ⟨x, hx⟩ : ∃ x, l[k]? = some x := ⟨_, List.getElem?_eq_getElem (by rw [HN.out]; exact hlt)⟩
        obtain ⟨b, o, rfl, -, q0, q1, q2, q3, q4, q5, q6, q7, q8, q9⟩ := (Ha.out.keep H1.out).cells hx
        have hc := Ha.out.1
        rw [HN.out] at hc
        have Hk := Lib.hid hx
        obtain ⟨f, hf⟩ : ∃ f, fewN x.node = f := ⟨_, rfl⟩
        obtain ⟨m, hm⟩ : ∃ m, x.data.length = m := ⟨_, rfl⟩
        have Hf := Lib.hid hf
        have Hm := Lib.hid hm
        have gl : decide ((k : Int) < (n : Int)) = true := decide_eq_true (by omega)
        have g30 : decide ((k : Int) ≤ 60) = true := decide_eq_true (by omega)
        clear hx hf hm
        by_cases h6 : f = true ∧ x.data.length ≤ 600
        · obtain ⟨rfl, h6⟩ := h6
          have Hx := Lib.hid (show fewX x = true by unfold fewX; rw [Hf.out, decide_eq_true h6]; rfl)
          have g6 : decide ((600 : Int) < (x.data.length : Int)) = false := decide_eq_false (by omega)
          have g6' : decide (600 < x.data.length) = false := decide_eq_false (by omega)
          have g6'' : ¬ (600 : Int) < (x.data.length : Int) := by omega
          go_wp2_with (go_at_call 16; (with_reducible refine (Long.few_s x.node _).mono ?_); rintro e w2 ⟨rfl, hs2⟩; rw [Hf.out]; have Hq := Lib.hid (Ha.out.keep (Stp.trans H1.out hs2)); have H2 := Lib.hid (Stp.trans H1.out hs2); clear hs2 q0 q1 q2 q3 q4 q5 q6 q7 q8 q9; have q9 := Hq.out.cells (j := k) Hk.out; simp only [Option.some.injEq, Addr.mk.injEq, and_true] at q9; obtain ⟨bb, oo, ⟨rfl, rfl⟩, -, q0, q1, q2, q3, q4, q5, q6, q7, q8, q9⟩ := q9)
          go_roundw
          case rel => exact ⟨k + 1, by omega, by omega, by go_num, H2, Lib.hid (all_next Hk.out Hx.out Hy.out)⟩
          case measure => simp [intOf]; omega
        · have Hx := Lib.hid (show fewX x = false by
            unfold fewX
            rw [Hf.out]
            cases f
            · rfl
            · rw [Bool.true_and, decide_eq_false_iff_not]
              exact fun q => h6 ⟨rfl, q⟩)
          cases f
          · clear h6
            go_wp2_with (go_at_call 16; (with_reducible refine (Long.few_s x.node _).mono ?_); rintro e w2 ⟨rfl, hs2⟩; rw [Hf.out]; have H2 := Lib.hid (Stp.trans H1.out hs2); clear hs2)
            go_ret
            refine ⟨congrArg (fun b => Ending.returned (.bool b)) ?_, H2.out⟩
            rw [← HR.out, fewE_no Hk.out Hx.out]
          · have g6'' : (600 : Int) < (x.data.length : Int) := by
              have : ¬ x.data.length ≤ 600 := fun q => h6 ⟨rfl, q⟩
              omega
            have g6 : decide ((600 : Int) < (x.data.length : Int)) = true := decide_eq_true g6''
            have g6' : decide (600 < x.data.length) = true := decide_eq_true (by omega)
            clear h6
            go_wp2_with (go_at_call 16; (with_reducible refine (Long.few_s x.node _).mono ?_); rintro e w2 ⟨rfl, hs2⟩; rw [Hf.out]; have Hq := Lib.hid (Ha.out.keep (Stp.trans H1.out hs2)); have H2 := Lib.hid (Stp.trans H1.out hs2); clear hs2 q0 q1 q2 q3 q4 q5 q6 q7 q8 q9; have q9 := Hq.out.cells (j := k) Hk.out; simp only [Option.some.injEq, Addr.mk.injEq, and_true] at q9; obtain ⟨bb, oo, ⟨rfl, rfl⟩, -, q0, q1, q2, q3, q4, q5, q6, q7, q8, q9⟩ := q9)
            go_ret
            refine ⟨congrArg (fun b => Ending.returned (.bool b)) ?_, H2.out⟩
            rw [← HR.out, fewE_no Hk.out Hx.out]
      · have gl : decide ((k : Int) < (n : Int)) = true := decide_eq_true (by omega)
        have g30 : decide ((k : Int) ≤ 60) = false := decide_eq_false (by omega)
        have gn : decide ((n : Int) ≤ 60) = false := decide_eq_false (by omega)
        have Hno := Lib.hid (show fewE l = false by
          rw [Bool.eq_false_iff]
          intro hf
          have := (fewE_iff.1 hf).1
          rw [HN.out] at this
          omega)
        go_wp2_with fail
        go_ret
        refine ⟨congrArg (fun b => Ending.returned (.bool b)) ?_, H1.out⟩
        rw [← HR.out, Hno.out]
    · obtain rfl : k = n := by omega
      have gl : decide ((k : Int) < (k : Int)) = false := decide_eq_false (by omega)
      by_cases h60 : k ≤ 60
      · have gn : decide ((k : Int) ≤ 60) = true := decide_eq_true (by omega)
        have Hyes := Lib.hid (show fewE l = true from fewE_iff.2 ⟨by rw [HN.out]; exact h60, fun x hx => by
          obtain ⟨j, hj⟩ := List.getElem?_of_mem hx
          exact Hy.out j x (by rw [← HN.out]; exact (List.getElem?_eq_some_iff.1 hj).1) hj⟩)
        go_wp2_with fail
        go_ret
        refine ⟨congrArg (fun b => Ending.returned (.bool b)) ?_, H1.out⟩
        rw [← HR.out, Hyes.out]
      · have gn : decide ((k : Int) ≤ 60) = false := decide_eq_false (by omega)
        have Hno := Lib.hid (show fewE l = false by
          rw [Bool.eq_false_iff]
          intro hf
          have := (fewE_iff.1 hf).1
          rw [HN.out] at this
          omega)
        go_wp2_with fail
        go_ret
        refine ⟨congrArg (fun b => Ending.returned (.bool b)) ?_, H1.out⟩
        rw [← HR.out, Hno.out]

theorem gather_len (y : List Evt) : (gatherV y).1.length ≤ y.length := by
  have h3 : ∀ (y : List Evt) (ds : List Nd) (c : Option Nd), (outG (goG ds c y).1 (goG ds c y).2.1).length ≤ ds.length + c.toList.length + y.length := by
    intro y
    induction y with
    | nil => intro ds c; rw [go_nil]; simp [outG]
    | cons x y ih =>
      intro ds c
      cases c with
      | none =>
        simp only [goG]
        split
        · have := ih ds (some x.node)
          simp at this ⊢
          omega
        · simp [outG]
      | some n =>
        simp only [goG]
        split
        · have := ih ds (some (moreN n x.data))
          simp at this ⊢
          omega
        split
        · have := ih (ds ++ [n]) none
          simp at this ⊢
          omega
        · simp [outG]
  have := h3 y [] none
  unfold gatherV
  simp only [List.length_nil, Option.toList_none] at this
  dsimp only
  omega
end Go.Proofs.YtgjdbbhfgfodlaaGreat.Read
