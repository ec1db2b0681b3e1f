/-
  The walk of the statement ReadGathers over package read's contracts.
-/
import Derived.Test.YtieefnnfnimflaaReadI
import Derived.Test.YtieefnnfnimflaaParseApp
import Derived.BigQuiet
import Derived.Deep.Cut
import Derived.Deep.QuietTactic
namespace Go.Proofs.Ytieefnnfnimflaa.Read
open Go.RowKit Go.Proofs.Ytieefnnfnimflaa.Str Go.Proofs.Ytieefnnfnimflaa.Base Go.Proofs.Ytieefnnfnimflaa.Node
open Go.Proofs.Ytieefnnfnimflaa.Parse (Evt RdE RowE)
open Go.Proofs.Ytieefnnfnimflaa.Long (fewN)

/-- Of events there are few, of few bytes. -/
def fewX (x : Evt) : Bool := fewN x.node && decide (x.data.length ≤ 600)
def fewE (l : List Evt) : Bool := decide (l.length ≤ 60) && l.all fewX
theorem fewE_iff {l : List Evt} : fewE l = true ↔ l.length ≤ 60 ∧ ∀ x ∈ l, fewX x = true := by simp [fewE]
theorem fewX_bytes {x : Evt} (h : fewX x = true) : BytesE x := by
  unfold fewX fewN at h
  simp only [Bool.and_eq_true, decide_eq_true_eq] at h
  exact ⟨by omega, by omega⟩
theorem fewE_no {l : List Evt} {k : Nat} {x : Evt} (hk : l[k]? = some x) (h : fewX x = false) : fewE l = false := by
  rw [Bool.eq_false_iff]
  intro hf
  rw [(fewE_iff.1 hf).2 x (List.mem_of_getElem? hk)] at h
  cases h
theorem all_next {l : List Evt} {k : Nat} {x : Evt} (hk : l[k]? = some x) (hn : fewX x = true) (h : ∀ (j : Nat) (m : Evt), j < k → l[j]? = some m → fewX m = true) : ∀ (j : Nat) (m : Evt), j < k + 1 → l[j]? = some m → fewX m = true := by
  intro j m hj hm
  by_cases e : j = k
  · subst e
    rw [hk] at hm
    cases hm
    exact hn
  · exact h j m (by omega) hm
set_option maxRecDepth 100000 in
set_option maxHeartbeats 2000000 in
theorem fewe_s (l : List Evt) (n : Nat) (hn : l.length = n) (hl : n < 9223372036854775808) (A : Option Addr) (c : Nat) (w : World) (ha : RdE w A c l) :
    Calls Try.prog 21 #[.slice A n c] w fun e w' => e = .returned (.bool (fewE l)) ∧ Stp w w' := by
  obtain ⟨R, hR⟩ : ∃ R, fewE l = R := ⟨_, rfl⟩
  have HR := Lib.hid hR
  rw [hR]
  have Ha := Lib.hid ha
  have HN := Lib.hid hn
  clear hR ha hn
  go_enter Try.func21, Try.ntmps21
  go_wp2_with fail
  go_loopw [3] (fun i wr => ∃ k : Nat, k ≤ n ∧ k ≤ 61 ∧ i = .int .i64 (k : Int) ∧ Hid (Stp w wr) ∧ Hid (∀ (j : Nat) (m : Evt), j < k → l[j]? = some m → fewX m = true)) (fun i _ => n - (intOf i).toNat)
  case atStart => exact ⟨0, by omega, by omega, rfl, Lib.hid (Stp.refl w), Lib.hid (fun j m hj => by omega)⟩
  case round =>
    obtain ⟨k, hk, hk31, rfl, H1, Hy⟩ := hrel
    by_cases hlt : k < n
    · by_cases h30 : k ≤ 60
      · obtain ⟨x, hx⟩ : ∃ x, l[k]? = some x := ⟨_, List.getElem?_eq_getElem (by rw [HN.out]; exact hlt)⟩
        obtain ⟨b, o, rfl, -, q0, q1, q2, q3, q4, q5, q6, q7, q8, q9⟩ := (Ha.out.keep H1.out).cells hx
        have hc := Ha.out.1
        rw [HN.out] at hc
        have Hk := Lib.hid hx
        obtain ⟨f, hf⟩ : ∃ f, fewN x.node = f := ⟨_, rfl⟩
        obtain ⟨m, hm⟩ : ∃ m, x.data.length = m := ⟨_, rfl⟩
        have Hf := Lib.hid hf
        have Hm := Lib.hid hm
        have gl : decide ((k : Int) < (n : Int)) = true := decide_eq_true (by omega)
        have g30 : decide ((k : Int) ≤ 60) = true := decide_eq_true (by omega)
        clear hx hf hm
        by_cases h6 : f = true ∧ x.data.length ≤ 600
        · obtain ⟨rfl, h6⟩ := h6
          have Hx := Lib.hid (show fewX x = true by unfold fewX; rw [Hf.out, decide_eq_true h6]; rfl)
          have g6 : decide ((600 : Int) < (x.data.length : Int)) = false := decide_eq_false (by omega)
          have g6' : decide (600 < x.data.length) = false := decide_eq_false (by omega)
          have g6'' : ¬ (600 : Int) < (x.data.length : Int) := by omega
          go_wp2_with (go_at_call 8; (with_reducible refine (Long.few_s x.node _).mono ?_); rintro e w2 ⟨rfl, hs2⟩; rw [Hf.out]; have Hq := Lib.hid (Ha.out.keep (Stp.trans H1.out hs2)); have H2 := Lib.hid (Stp.trans H1.out hs2); clear hs2 q0 q1 q2 q3 q4 q5 q6 q7 q8 q9; have q9 := Hq.out.cells (j := k) Hk.out; simp only [Option.some.injEq, Addr.mk.injEq, and_true] at q9; obtain ⟨bb, oo, ⟨rfl, rfl⟩, -, q0, q1, q2, q3, q4, q5, q6, q7, q8, q9⟩ := q9)
          go_roundw
          case rel => exact ⟨k + 1, by omega, by omega, by go_num, H2, Lib.hid (all_next Hk.out Hx.out Hy.out)⟩
          case measure => simp [intOf]; omega
        · have Hx := Lib.hid (show fewX x = false by
            unfold fewX
            rw [Hf.out]
            cases f
            · rfl
            · rw [Bool.true_and, decide_eq_false_iff_not]
              exact fun q => h6 ⟨rfl, q⟩)
          cases f
          · clear h6
            go_wp2_with (go_at_call 8; (with_reducible refine (Long.few_s x.node _).mono ?_); rintro e w2 ⟨rfl, hs2⟩; rw [Hf.out]; have H2 := Lib.hid (Stp.trans H1.out hs2); clear hs2)
            go_ret
            refine ⟨congrArg (fun b => Ending.returned (.bool b)) ?_, H2.out⟩
            rw [← HR.out, fewE_no Hk.out Hx.out]
          · have g6'' : (600 : Int) < (x.data.length : Int) := by
              have : ¬ x.data.length ≤ 600 := fun q => h6 ⟨rfl, q⟩
              omega
            have g6 : decide ((600 : Int) < (x.data.length : Int)) = true := decide_eq_true g6''
            have g6' : decide (600 < x.data.length) = true := decide_eq_true (by omega)
            clear h6
            go_wp2_with (go_at_call 8; (with_reducible refine (Long.few_s x.node _).mono ?_); rintro e w2 ⟨rfl, hs2⟩; rw [Hf.out]; have Hq := Lib.hid (Ha.out.keep (Stp.trans H1.out hs2)); have H2 := Lib.hid (Stp.trans H1.out hs2); clear hs2 q0 q1 q2 q3 q4 q5 q6 q7 q8 q9; have q9 := Hq.out.cells (j := k) Hk.out; simp only [Option.some.injEq, Addr.mk.injEq, and_true] at q9; obtain ⟨bb, oo, ⟨rfl, rfl⟩, -, q0, q1, q2, q3, q4, q5, q6, q7, q8, q9⟩ := q9)
            go_ret
            refine ⟨congrArg (fun b => Ending.returned (.bool b)) ?_, H2.out⟩
            rw [← HR.out, fewE_no Hk.out Hx.out]
      · have gl : decide ((k : Int) < (n : Int)) = true := decide_eq_true (by omega)
        have g30 : decide ((k : Int) ≤ 60) = false := decide_eq_false (by omega)
        have gn : decide ((n : Int) ≤ 60) = false := decide_eq_false (by omega)
        have Hno := Lib.hid (show fewE l = false by
          rw [Bool.eq_false_iff]
          intro hf
          have := (fewE_iff.1 hf).1
          rw [HN.out] at this
          omega)
        go_wp2_with fail
        go_ret
        refine ⟨congrArg (fun b => Ending.returned (.bool b)) ?_, H1.out⟩
        rw [← HR.out, Hno.out]
    · obtain rfl : k = n := by omega
      have gl : decide ((k : Int) < (k : Int)) = false := decide_eq_false (by omega)
      by_cases h60 : k ≤ 60
      · have gn : decide ((k : Int) ≤ 60) = true := decide_eq_true (by omega)
        have Hyes := Lib.hid (show fewE l = true from fewE_iff.2 ⟨by rw [HN.out]; exact h60, fun x hx => by
          obtain ⟨j, hj⟩ := List.getElem?_of_mem hx
          exact Hy.out j x (by rw [← HN.out]; exact (List.getElem?_eq_some_iff.1 hj).1) hj⟩)
        go_wp2_with fail
        go_ret
        refine ⟨congrArg (fun b => Ending.returned (.bool b)) ?_, H1.out⟩
        rw [← HR.out, Hyes.out]
      · have gn : decide ((k : Int) ≤ 60) = false := decide_eq_false (by omega)
        have Hno := Lib.hid (show fewE l = false by
          rw [Bool.eq_false_iff]
          intro hf
          have := (fewE_iff.1 hf).1
          rw [HN.out] at this
          omega)
        go_wp2_with fail
        go_ret
        refine ⟨congrArg (fun b => Ending.returned (.bool b)) ?_, H1.out⟩
        rw [← HR.out, Hno.out]

set_option maxRecDepth 100000 in
set_option maxHeartbeats 4000000 in
theorem gathers_n1 (I : ReadI) (a b : List Evt) (na nb : Nat) (hna : a.length = na) (hnb : b.length = nb) (A B : Option Addr) (c d : Nat) (w : World) (ha : RdE w A c a) (hb : RdE w B d b) (hla : na < 9223372036854775808) (hlb : nb < 9223372036854775808) (hF : fewE a = false) (G : Bool) (hG : fewE b = G) :
    Calls Try.prog 6 #[.slice A na c, .slice B nb d] w fun e w' => e = .returned (.bool true) ∧ Stp w w' := by
  have h0 := Stp.refl w
  have HI := Lib.hid I
  have Ha := Lib.hid ha
  have Hb := Lib.hid hb
  have Hna := Lib.hid hna
  have Hnb := Lib.hid hnb
  have HF := Lib.hid hF
  have HG := Lib.hid hG
  clear I ha hb hna hnb hF hG
  go_enter Try.func6, Try.ntmps6
  go_wp2_with (first
    | (go_at_call 14; (with_reducible refine (awake_s HI.out _).mono ?_); rintro e w1 ⟨rfl, hs⟩; replace Ha := Lib.hid (Ha.out.keep hs); replace Hb := Lib.hid (Hb.out.keep hs); replace h0 := Stp.trans h0 hs; clear hs)
    | (go_at_call 21; (with_reducible refine (fewe_s a na Hna.out hla _ _ _ Ha.out).mono ?_); rintro e w3 ⟨rfl, hs⟩; rw [HF.out]; replace Ha := Lib.hid (Ha.out.keep hs); replace Hb := Lib.hid (Hb.out.keep hs); replace h0 := Stp.trans h0 hs; clear hs)
    | (go_at_call 21; (with_reducible refine (fewe_s b nb Hnb.out hlb _ _ _ Hb.out).mono ?_); rintro e w4 ⟨rfl, hs⟩; rw [HG.out]; replace Ha := Lib.hid (Ha.out.keep hs); replace Hb := Lib.hid (Hb.out.keep hs); replace h0 := Stp.trans h0 hs; clear hs))
  go_ret
  exact ⟨rfl, h0⟩
set_option maxRecDepth 100000 in
set_option maxHeartbeats 4000000 in
theorem gathers_n2 (I : ReadI) (a b : List Evt) (na nb : Nat) (hna : a.length = na) (hnb : b.length = nb) (A B : Option Addr) (c d : Nat) (w : World) (ha : RdE w A c a) (hb : RdE w B d b) (hla : na < 9223372036854775808) (hlb : nb < 9223372036854775808) (hF : fewE a = true) (hG : fewE b = false) :
    Calls Try.prog 6 #[.slice A na c, .slice B nb d] w fun e w' => e = .returned (.bool true) ∧ Stp w w' := by
  have h0 := Stp.refl w
  have HI := Lib.hid I
  have Ha := Lib.hid ha
  have Hb := Lib.hid hb
  have Hna := Lib.hid hna
  have Hnb := Lib.hid hnb
  have HF := Lib.hid hF
  have HG := Lib.hid hG
  clear I ha hb hna hnb hF hG
  go_enter Try.func6, Try.ntmps6
  go_wp2_with (first
    | (go_at_call 14; (with_reducible refine (awake_s HI.out _).mono ?_); rintro e w1 ⟨rfl, hs⟩; replace Ha := Lib.hid (Ha.out.keep hs); replace Hb := Lib.hid (Hb.out.keep hs); replace h0 := Stp.trans h0 hs; clear hs)
    | (go_at_call 21; (with_reducible refine (fewe_s a na Hna.out hla _ _ _ Ha.out).mono ?_); rintro e w3 ⟨rfl, hs⟩; rw [HF.out]; replace Ha := Lib.hid (Ha.out.keep hs); replace Hb := Lib.hid (Hb.out.keep hs); replace h0 := Stp.trans h0 hs; clear hs)
    | (go_at_call 21; (with_reducible refine (fewe_s b nb Hnb.out hlb _ _ _ Hb.out).mono ?_); rintro e w4 ⟨rfl, hs⟩; rw [HG.out]; replace Ha := Lib.hid (Ha.out.keep hs); replace Hb := Lib.hid (Hb.out.keep hs); replace h0 := Stp.trans h0 hs; clear hs))
  go_ret
  exact ⟨rfl, h0⟩
set_option maxRecDepth 100000 in
set_option maxHeartbeats 4000000 in
theorem gathers_n3 (I : ReadI) (a b : List Evt) (na nb : Nat) (hna : a.length = na) (hnb : b.length = nb) (A B : Option Addr) (c d : Nat) (w : World) (ha : RdE w A c a) (hb : RdE w B d b) (hla : na < 9223372036854775808) (hlb : nb < 9223372036854775808) (hF : fewE a = true) (hG : fewE b = true) (h30 : 30 < na) :
    Calls Try.prog 6 #[.slice A na c, .slice B nb d] w fun e w' => e = .returned (.bool true) ∧ Stp w w' := by
  have h0 := Stp.refl w
  have HI := Lib.hid I
  have Ha := Lib.hid ha
  have Hb := Lib.hid hb
  have Hna := Lib.hid hna
  have Hnb := Lib.hid hnb
  have HF := Lib.hid hF
  have HG := Lib.hid hG
  have k1 : decide ((30 : Int) < (na : Int)) = true := decide_eq_true (by omega)
  clear I ha hb hna hnb hF hG
  go_enter Try.func6, Try.ntmps6
  go_wp2_with (first
    | (go_at_call 14; (with_reducible refine (awake_s HI.out _).mono ?_); rintro e w1 ⟨rfl, hs⟩; replace Ha := Lib.hid (Ha.out.keep hs); replace Hb := Lib.hid (Hb.out.keep hs); replace h0 := Stp.trans h0 hs; clear hs)
    | (go_at_call 21; (with_reducible refine (fewe_s a na Hna.out hla _ _ _ Ha.out).mono ?_); rintro e w3 ⟨rfl, hs⟩; rw [HF.out]; replace Ha := Lib.hid (Ha.out.keep hs); replace Hb := Lib.hid (Hb.out.keep hs); replace h0 := Stp.trans h0 hs; clear hs)
    | (go_at_call 21; (with_reducible refine (fewe_s b nb Hnb.out hlb _ _ _ Hb.out).mono ?_); rintro e w4 ⟨rfl, hs⟩; rw [HG.out]; replace Ha := Lib.hid (Ha.out.keep hs); replace Hb := Lib.hid (Hb.out.keep hs); replace h0 := Stp.trans h0 hs; clear hs))
  go_ret
  exact ⟨rfl, h0⟩
set_option maxRecDepth 100000 in
set_option maxHeartbeats 4000000 in
theorem gathers_n4 (I : ReadI) (a b : List Evt) (na nb : Nat) (hna : a.length = na) (hnb : b.length = nb) (A B : Option Addr) (c d : Nat) (w : World) (ha : RdE w A c a) (hb : RdE w B d b) (hla : na < 9223372036854775808) (hlb : nb < 9223372036854775808) (hF : fewE a = true) (hG : fewE b = true) (h30 : na ≤ 30) (h30' : 30 < nb) :
    Calls Try.prog 6 #[.slice A na c, .slice B nb d] w fun e w' => e = .returned (.bool true) ∧ Stp w w' := by
  have h0 := Stp.refl w
  have HI := Lib.hid I
  have Ha := Lib.hid ha
  have Hb := Lib.hid hb
  have Hna := Lib.hid hna
  have Hnb := Lib.hid hnb
  have HF := Lib.hid hF
  have HG := Lib.hid hG
  have k1 : decide ((30 : Int) < (na : Int)) = false := decide_eq_false (by omega)
  have k2 : decide ((30 : Int) < (nb : Int)) = true := decide_eq_true (by omega)
  clear I ha hb hna hnb hF hG
  go_enter Try.func6, Try.ntmps6
  go_wp2_with (first
    | (go_at_call 14; (with_reducible refine (awake_s HI.out _).mono ?_); rintro e w1 ⟨rfl, hs⟩; replace Ha := Lib.hid (Ha.out.keep hs); replace Hb := Lib.hid (Hb.out.keep hs); replace h0 := Stp.trans h0 hs; clear hs)
    | (go_at_call 21; (with_reducible refine (fewe_s a na Hna.out hla _ _ _ Ha.out).mono ?_); rintro e w3 ⟨rfl, hs⟩; rw [HF.out]; replace Ha := Lib.hid (Ha.out.keep hs); replace Hb := Lib.hid (Hb.out.keep hs); replace h0 := Stp.trans h0 hs; clear hs)
    | (go_at_call 21; (with_reducible refine (fewe_s b nb Hnb.out hlb _ _ _ Hb.out).mono ?_); rintro e w4 ⟨rfl, hs⟩; rw [HG.out]; replace Ha := Lib.hid (Ha.out.keep hs); replace Hb := Lib.hid (Hb.out.keep hs); replace h0 := Stp.trans h0 hs; clear hs))
  go_ret
  exact ⟨rfl, h0⟩
set_option maxRecDepth 100000 in
set_option maxHeartbeats 4000000 in
theorem gathers_n5 (I : ReadI) (a b : List Evt) (na nb : Nat) (hna : a.length = na) (hnb : b.length = nb) (A B : Option Addr) (c d : Nat) (w : World) (ha : RdE w A c a) (hb : RdE w B d b) (hla : na < 9223372036854775808) (hlb : nb < 9223372036854775808) (hF : fewE a = true) (hG : fewE b = true) (h30 : na ≤ 30) (h30' : nb ≤ 30) (j : Nat) (hj : na = j + 1) (x : Evt) (hx : a[j]? = some x) (hk : x.kind ≠ 2) :
    Calls Try.prog 6 #[.slice A na c, .slice B nb d] w fun e w' => e = .returned (.bool true) ∧ Stp w w' := by
  have h0 := Stp.refl w
  have HI := Lib.hid I
  have Ha := Lib.hid ha
  have Hb := Lib.hid hb
  have Hna := Lib.hid hna
  have Hnb := Lib.hid hnb
  subst hj
  have HF := Lib.hid hF
  have HG := Lib.hid hG
  have k1 : decide ((30 : Int) < ((j : Int) + 1)) = false := decide_eq_false (by omega)
  have k2 : decide ((30 : Int) < (nb : Int)) = false := decide_eq_false (by omega)
  have k3 : decide ((0 : Int) < ((j : Int) + 1)) = true := decide_eq_true (by omega)
  have gk : (x.kind != 2) = true := bne_iff_ne.2 hk
  have Hx := Lib.hid hx
  clear I ha hb hna hnb hF hG hx hk
  go_enter Try.func6, Try.ntmps6
  go_wp2_with (first
    | (go_at_call 14; (with_reducible refine (awake_s HI.out _).mono ?_); rintro e w1 ⟨rfl, hs⟩; replace Ha := Lib.hid (Ha.out.keep hs); replace Hb := Lib.hid (Hb.out.keep hs); replace h0 := Stp.trans h0 hs; clear hs)
    | (go_at_call 21; (with_reducible refine (fewe_s a (j + 1) Hna.out hla _ _ _ Ha.out).mono ?_); rintro e w3 ⟨rfl, hs⟩; rw [HF.out]; replace Ha := Lib.hid (Ha.out.keep hs); replace Hb := Lib.hid (Hb.out.keep hs); replace h0 := Stp.trans h0 hs; clear hs)
    | (go_at_call 21; (with_reducible refine (fewe_s b nb Hnb.out hlb _ _ _ Hb.out).mono ?_); rintro e w4 ⟨rfl, hs⟩; rw [HG.out]; replace Ha := Lib.hid (Ha.out.keep hs); replace Hb := Lib.hid (Hb.out.keep hs); replace h0 := Stp.trans h0 hs; clear hs; obtain ⟨bl, ol, rfl, -, q0, -⟩ := Ha.out.cells (j := j) Hx.out; have hcl := Ha.out.1; rw [Hna.out] at hcl))
  go_ret
  exact ⟨rfl, h0⟩
theorem gather_len (y : List Evt) : (gatherV y).1.length ≤ y.length := by
  have h3 : ∀ (y : List Evt) (ds : List Nd) (c : Option Nd), (outG (goG ds c y).1 (goG ds c y).2.1).length ≤ ds.length + c.toList.length + y.length := by
    intro y
    induction y with
    | nil => intro ds c; rw [go_nil]; simp [outG]
    | cons x y ih =>
      intro ds c
      cases c with
      | none =>
        simp only [goG]
        split
        · have := ih ds (some x.node)
          simp at this ⊢
          omega
        · simp [outG]
      | some n =>
        simp only [goG]
        split
        · have := ih ds (some (moreN n x.data))
          simp at this ⊢
          omega
        split
        · have := ih (ds ++ [n]) none
          simp at this ⊢
          omega
        · simp [outG]
  have := h3 y [] none
  unfold gatherV
  simp only [List.length_nil, Option.toList_none] at this
  dsimp only
  omega
theorem rowE_n {w : World} {lo : Nat} {v : Value} {ls : List Evt} {n : Nat} (h : RowE w lo v ls) (hn : ls.length = n) : ∃ A c, v = .slice A n c ∧ RdE w A c ls := by
  subst hn
  exact h.rd
theorem stpE_here {w w' : World} {lo : Nat} {v : Value} {ls : List Evt} (h : RowE w lo v ls) (hlo : w.heap.size ≤ lo) (hg : w.grownBy w' v.ownBlock) : Stp w w' := h.stp (Stp.refl w) hlo hg
set_option maxRecDepth 100000 in
set_option maxHeartbeats 4000000 in
theorem gathers_m0 (I : ReadI) (a b : List Evt) (na nb : Nat) (hna : a.length = na) (hnb : b.length = nb) (A B : Option Addr) (c d : Nat) (w : World) (ha : RdE w A c a) (hb : RdE w B d b) (hla : na < 9223372036854775808) (hlb : nb < 9223372036854775808) (hF : fewE a = true) (hG : fewE b = true) (h30 : na ≤ 30) (h30' : nb ≤ 30) (h0a : a = []) :
    Calls Try.prog 6 #[.slice A na c, .slice B nb d] w fun e w' => e = .returned (.bool true) ∧ Stp w w' := by
  have h0 := Stp.refl w
  have HI := Lib.hid I
  have Ha := Lib.hid ha
  have Hb := Lib.hid hb
  have Hna := Lib.hid hna
  have Hnb := Lib.hid hnb
  have hlast : ∀ x, a.getLast? = some x → x.kind = 2 := by rw [h0a]; simp
  obtain rfl : na = 0 := by rw [← hna, h0a]; rfl
  have k2 : decide ((30 : Int) < (nb : Int)) = false := decide_eq_false (by omega)
  clear h0a
  have HF := Lib.hid hF
  have HG := Lib.hid hG
  have hba : ∀ x ∈ a, BytesE x := fun x hx => fewX_bytes ((fewE_iff.1 hF).2 x hx)
  have hbb : ∀ x ∈ b, BytesE x := fun x hx => fewX_bytes ((fewE_iff.1 hG).2 x hx)
  have hbab : ∀ x ∈ a ++ b, BytesE x := fun x hx => by
    rcases List.mem_append.1 hx with hx | hx
    · exact hba x hx
    · exact hbb x hx
  obtain ⟨ts, is, ht⟩ : ∃ ts is, gatherV a = (ts, is) := ⟨_, _, rfl⟩
  obtain ⟨us, can, hu⟩ : ∃ us can, gatherV b = (us, can) := ⟨_, _, rfl⟩
  obtain ⟨vs, all, hv⟩ : ∃ vs all, gatherV (a ++ b) = (vs, all) := ⟨_, _, rfl⟩
  have hg := gathers a b hlast
  rw [ht, hu, hv] at hg
  simp only at hg
  have hab : (a ++ b).length = nb := by rw [List.length_append, hna, hnb, Nat.zero_add]
  obtain ⟨mt, hmt⟩ : ∃ x, ts.length = x := ⟨_, rfl⟩
  obtain ⟨mu, hmu⟩ : ∃ x, us.length = x := ⟨_, rfl⟩
  obtain ⟨mv, hmv⟩ : ∃ x, vs.length = x := ⟨_, rfl⟩
  have gl1 := gather_len a
  have gl2 := gather_len b
  have gl3 := gather_len (a ++ b)
  rw [ht] at gl1
  rw [hu] at gl2
  rw [hv, hab] at gl3
  simp only at gl1 gl2 gl3
  rw [hmt, hna] at gl1
  rw [hmu, hnb] at gl2
  rw [hmv] at gl3
  have hcase : (is = false ∧ all = false ∧ mv = mt) ∨ (is = true ∧ all = can ∧ vs = ts ++ us ∧ mv = mt + mu) := by
    cases is with
    | false =>
      rw [if_neg (by simp)] at hg
      simp only [Prod.mk.injEq] at hg
      exact .inl ⟨rfl, hg.2, by rw [← hmv, ← hmt, hg.1]⟩
    | true =>
      rw [if_pos rfl] at hg
      simp only [Prod.mk.injEq] at hg
      exact .inr ⟨rfl, hg.2, hg.1, by rw [← hmv, hg.1, List.length_append, hmt, hmu]⟩
  have Hba := Lib.hid hba
  have Hbb := Lib.hid hbb
  have Hbab := Lib.hid hbab
  have HT := Lib.hid ht
  have HU := Lib.hid hu
  have HV := Lib.hid hv
  have Hmt := Lib.hid hmt
  have Hmu := Lib.hid hmu
  have Hmv := Lib.hid hmv
  have Hab := Lib.hid hab
  have l1 : (([] : List Evt).length + 0 ≤ 1000000) := by simp only [List.length_nil]; omega
  have l2 : (a.length + nb ≤ 1000000) := by rw [hna]; omega
  have L1 := Lib.hid l1
  have L2 := Lib.hid l2
  have gN : nb ≤ 2999 := by omega
  have ga : 0 ≤ 2999 := by omega
  have gb : nb ≤ 2999 := by omega
  clear I ha hb hna hnb hF hG hba hbb hbab ht hu hv hg hmt hmu hmv hab l1 l2 hlast
  go_enter Try.func6, Try.ntmps6
  go_upto_region 9 with (first
    | (go_at_call 14; (with_reducible refine (awake_s HI.out _).mono ?_); rintro e w1 ⟨rfl, hs⟩; replace Ha := Lib.hid (Ha.out.keep hs); replace Hb := Lib.hid (Hb.out.keep hs); replace h0 := Stp.trans h0 hs; clear hs)
    | (go_at_call 21; (with_reducible refine (fewe_s a 0 Hna.out hla _ _ _ Ha.out).mono ?_); rintro e w3 ⟨rfl, hs⟩; rw [HF.out]; replace Ha := Lib.hid (Ha.out.keep hs); replace Hb := Lib.hid (Hb.out.keep hs); replace h0 := Stp.trans h0 hs; clear hs)
    | (go_at_call 21; (with_reducible refine (fewe_s b nb Hnb.out hlb _ _ _ Hb.out).mono ?_); rintro e w4 ⟨rfl, hs⟩; rw [HG.out]; replace Ha := Lib.hid (Ha.out.keep hs); replace Hb := Lib.hid (Hb.out.keep hs); replace h0 := Stp.trans h0 hs; clear hs)
    | (go_at_call 22; (with_reducible refine (HI.out.gather a 0 Hna.out ga Hba.out ts is mt HT.out Hmt.out _ _ _ Ha.out).mono ?_); rintro e5 w5 ⟨B5, d5, rfl, hr5, hs⟩; have RT := Lib.hid hr5; replace Ha := Lib.hid (Ha.out.keep hs); replace Hb := Lib.hid (Hb.out.keep hs); replace h0 := Stp.trans h0 hs; clear hs hr5)
    | (go_at_call 22; (with_reducible refine (HI.out.gather b nb Hnb.out gb Hbb.out us can mu HU.out Hmu.out _ _ _ Hb.out).mono ?_); rintro e6 w6 ⟨B6, d6, rfl, hr6, hs⟩; have RU := Lib.hid hr6; replace RT := Lib.hid (RT.out.keep hs); replace Ha := Lib.hid (Ha.out.keep hs); replace Hb := Lib.hid (Hb.out.keep hs); replace h0 := Stp.trans h0 hs; clear hs hr6)
    | (at_builtin; refine Parse.wpList_app_evs w6 (by rfl) _ (.tmp 67) rfl w6.heap.size (.slice none 0 0) [] rfl (RowE.nil w6 w6.heap.size) a _ 0 _ rfl Ha.out Hna.out L1.out (Nat.le_refl _) ?_; intro v7 w7 hR hg; have hs := stpE_here (RowE.nil w6 w6.heap.size) (Nat.le_refl _) hg; replace Hb := Lib.hid (Hb.out.keep hs); have HR7 := Lib.hid (show RowE w7 w6.heap.size v7 a from hR); have Hs7 := Lib.hid hs; clear hs hR hg)
    | (at_builtin; refine Parse.wpList_app_evs w7 (by rfl) _ (.tmp 69) rfl w6.heap.size v7 a rfl HR7.out b _ nb _ rfl Hb.out Hnb.out L2.out Hs7.out.size ?_; intro v8 w8 hR hg; have hs := RowE.stp HR7.out Hs7.out (Nat.le_refl _) hg; clear hg; obtain ⟨A8, c8, rfl, hL8⟩ := rowE_n hR Hab.out; have HL8 := Lib.hid hL8; replace RT := Lib.hid (RT.out.keep hs); replace RU := Lib.hid (RU.out.keep hs); replace h0 := Stp.trans h0 hs; clear hs hR hL8)
    | (go_at_call 22; (with_reducible refine (HI.out.gather (a ++ b) nb Hab.out gN Hbab.out vs all mv HV.out Hmv.out _ _ _ HL8.out).mono ?_); rintro e9 w9 ⟨B9, d9, rfl, hr9, hs⟩; have RV := Lib.hid hr9; replace RT := Lib.hid (RT.out.keep hs); replace RU := Lib.hid (RU.out.keep hs); replace h0 := Stp.trans h0 hs; clear hs hr9))
  have H0 := Lib.hid h0
  have hmt5 : mt ≤ d5 := by have := RT.out.1; rw [Hmt.out] at this; exact this
  have hmu6 : mu ≤ d6 := by have := RU.out.1; rw [Hmu.out] at this; exact this
  have hmv9 : mv ≤ d9 := by have := RV.out.1; rw [Hmv.out] at this; exact this
  have hng := Tree.noGuardN
  clear h0
  rcases hcase with ⟨rfl, rfl, gm⟩ | ⟨rfl, rfl, gvs, gm⟩
  · have ge : ((mv : Int) == (mt : Int)) = true := by rw [gm]; exact beq_self_eq_true _
    have ge' : (mv == mt) = true := by rw [gm]; exact beq_self_eq_true _
    subst gm
    go_wp2_with fail
    go_ret
    exact ⟨rfl, H0.out⟩
  · have gw : IntKind.i64.wrap ((mt : Int) + (mu : Int)) = ((mt + mu : Nat) : Int) := by rw [IntKind.wrap_i64]; omega
    subst gm
    have gw2 : (((mt + mu : Nat) : Int) != ((mt + mu : Nat) : Int)) = false := by simp
    have Gvs := Lib.hid gvs
    clear gvs
    go_wp2_with fail
    go_loopw [14] (fun i wr => ∃ k : Nat, k ≤ mt + mu ∧ i = .int .i64 (k : Int) ∧ Hid (Stp w9 wr)) (fun i _ => mt + mu - (intOf i).toNat)
    case atStart => exact ⟨0, by omega, rfl, Lib.hid (Stp.refl w9)⟩
    case round =>
      obtain ⟨k, hk, rfl, H2⟩ := hrel
      by_cases hlt : k < mt + mu
      · obtain ⟨x, hx⟩ : ∃ x, vs[k]? = some x := ⟨_, List.getElem?_eq_getElem (by rw [Hmv.out]; exact hlt)⟩
        have heq : ∀ w, (Op.equalIn 10000 23 (nv x) (nv x)).run Try.prog w = .ok true w := fun w => by rw [Tree.eq_nodes]; simp
        have hxv := hx
        rw [Gvs.out] at hxv
        obtain ⟨b3, o3, rfl, -, q0, q1, q2, q3, q4, q5, q6, q7⟩ := (RV.out.keep H2.out).cells hx
        have gl : decide ((k : Int) < ((mt : Int) + (mu : Int))) = true := decide_eq_true (by omega)
        by_cases hkt : k < mt
        · rw [List.getElem?_append_left (by rw [Hmt.out]; exact hkt)] at hxv
          obtain ⟨b4, o4, rfl, -, r0, r1, r2, r3, r4, r5, r6, r7⟩ := (RT.out.keep H2.out).cells hxv
          have g1 : decide (k < mt) = true := decide_eq_true hkt
          have g2 : decide (mt ≤ k) = false := decide_eq_false (by omega)
          clear hx hxv
          go_wp2_with fail
          go_quiet (fail)
          go_wp2_with fail
          go_roundw
          case rel => exact ⟨k + 1, by omega, by go_num, Lib.hid (H2.out.drewN _)⟩
          case measure => simp [intOf]; omega
        · rw [List.getElem?_append_right (by rw [Hmt.out]; omega), Hmt.out] at hxv
          obtain ⟨b4, o4, rfl, -, r0, r1, r2, r3, r4, r5, r6, r7⟩ := (RU.out.keep H2.out).cells hxv
          have g1 : decide (k < mt) = false := decide_eq_false hkt
          have g2 : decide (mt ≤ k) = true := decide_eq_true (by omega)
          have gi : IntKind.i64.wrap ((k : Int) - (mt : Int)) = ((k - mt : Nat) : Int) := by rw [IntKind.wrap_i64]; omega
          have gj : k - mt < mu := by omega
          clear hx hxv
          go_wp2_with fail
          go_quiet (fail)
          go_wp2_with fail
          go_roundw
          case rel => exact ⟨k + 1, by omega, by go_num, Lib.hid (H2.out.drewN _)⟩
          case measure => simp [intOf]; omega
      · obtain rfl : k = mt + mu := by omega
        go_wp2_with fail
        go_ret
        exact ⟨rfl, Stp.trans H0.out H2.out⟩
set_option maxRecDepth 100000 in
set_option maxHeartbeats 4000000 in
theorem gathers_m1 (I : ReadI) (a b : List Evt) (na nb : Nat) (hna : a.length = na) (hnb : b.length = nb) (A B : Option Addr) (c d : Nat) (w : World) (ha : RdE w A c a) (hb : RdE w B d b) (hla : na < 9223372036854775808) (hlb : nb < 9223372036854775808) (hF : fewE a = true) (hG : fewE b = true) (h30 : na ≤ 30) (h30' : nb ≤ 30) (j : Nat) (hj : na = j + 1) (x : Evt) (hx : a[j]? = some x) (hk : x.kind = 2) :
    Calls Try.prog 6 #[.slice A na c, .slice B nb d] w fun e w' => e = .returned (.bool true) ∧ Stp w w' := by
  have h0 := Stp.refl w
  have HI := Lib.hid I
  have Ha := Lib.hid ha
  have Hb := Lib.hid hb
  have Hna := Lib.hid hna
  have Hnb := Lib.hid hnb
  have hlast : ∀ y, a.getLast? = some y → y.kind = 2 := fun y hy => by
    rw [List.getLast?_eq_getElem?, hna, hj] at hy
    simp only [Nat.add_sub_cancel] at hy
    rw [hx] at hy
    cases hy
    exact hk
  subst hj
  have k1 : decide ((30 : Int) < ((j : Int) + 1)) = false := decide_eq_false (by omega)
  have k2 : decide ((30 : Int) < (nb : Int)) = false := decide_eq_false (by omega)
  have k3 : decide ((0 : Int) < ((j : Int) + 1)) = true := decide_eq_true (by omega)
  have gk : (x.kind != 2) = false := by rw [hk]; rfl
  have Hx := Lib.hid hx
  clear hx hk
  have HF := Lib.hid hF
  have HG := Lib.hid hG
  have hba : ∀ x ∈ a, BytesE x := fun x hx => fewX_bytes ((fewE_iff.1 hF).2 x hx)
  have hbb : ∀ x ∈ b, BytesE x := fun x hx => fewX_bytes ((fewE_iff.1 hG).2 x hx)
  have hbab : ∀ x ∈ a ++ b, BytesE x := fun x hx => by
    rcases List.mem_append.1 hx with hx | hx
    · exact hba x hx
    · exact hbb x hx
  obtain ⟨ts, is, ht⟩ : ∃ ts is, gatherV a = (ts, is) := ⟨_, _, rfl⟩
  obtain ⟨us, can, hu⟩ : ∃ us can, gatherV b = (us, can) := ⟨_, _, rfl⟩
  obtain ⟨vs, all, hv⟩ : ∃ vs all, gatherV (a ++ b) = (vs, all) := ⟨_, _, rfl⟩
  have hg := gathers a b hlast
  rw [ht, hu, hv] at hg
  simp only at hg
  have hab : (a ++ b).length = (j + 1) + nb := by rw [List.length_append, hna, hnb]
  obtain ⟨mt, hmt⟩ : ∃ x, ts.length = x := ⟨_, rfl⟩
  obtain ⟨mu, hmu⟩ : ∃ x, us.length = x := ⟨_, rfl⟩
  obtain ⟨mv, hmv⟩ : ∃ x, vs.length = x := ⟨_, rfl⟩
  have gl1 := gather_len a
  have gl2 := gather_len b
  have gl3 := gather_len (a ++ b)
  rw [ht] at gl1
  rw [hu] at gl2
  rw [hv, hab] at gl3
  simp only at gl1 gl2 gl3
  rw [hmt, hna] at gl1
  rw [hmu, hnb] at gl2
  rw [hmv] at gl3
  have hcase : (is = false ∧ all = false ∧ mv = mt) ∨ (is = true ∧ all = can ∧ vs = ts ++ us ∧ mv = mt + mu) := by
    cases is with
    | false =>
      rw [if_neg (by simp)] at hg
      simp only [Prod.mk.injEq] at hg
      exact .inl ⟨rfl, hg.2, by rw [← hmv, ← hmt, hg.1]⟩
    | true =>
      rw [if_pos rfl] at hg
      simp only [Prod.mk.injEq] at hg
      exact .inr ⟨rfl, hg.2, hg.1, by rw [← hmv, hg.1, List.length_append, hmt, hmu]⟩
  have Hba := Lib.hid hba
  have Hbb := Lib.hid hbb
  have Hbab := Lib.hid hbab
  have HT := Lib.hid ht
  have HU := Lib.hid hu
  have HV := Lib.hid hv
  have Hmt := Lib.hid hmt
  have Hmu := Lib.hid hmu
  have Hmv := Lib.hid hmv
  have Hab := Lib.hid hab
  have l1 : (([] : List Evt).length + (j + 1) ≤ 1000000) := by simp only [List.length_nil]; omega
  have l2 : (a.length + nb ≤ 1000000) := by rw [hna]; omega
  have L1 := Lib.hid l1
  have L2 := Lib.hid l2
  have gN : (j + 1) + nb ≤ 2999 := by omega
  have ga : (j + 1) ≤ 2999 := by omega
  have gb : nb ≤ 2999 := by omega
  clear I ha hb hna hnb hF hG hba hbb hbab ht hu hv hg hmt hmu hmv hab l1 l2 hlast
  go_enter Try.func6, Try.ntmps6
  go_upto_region 9 with (first
    | (go_at_call 14; (with_reducible refine (awake_s HI.out _).mono ?_); rintro e w1 ⟨rfl, hs⟩; replace Ha := Lib.hid (Ha.out.keep hs); replace Hb := Lib.hid (Hb.out.keep hs); replace h0 := Stp.trans h0 hs; clear hs)
    | (go_at_call 21; (with_reducible refine (fewe_s a (j + 1) Hna.out hla _ _ _ Ha.out).mono ?_); rintro e w3 ⟨rfl, hs⟩; rw [HF.out]; replace Ha := Lib.hid (Ha.out.keep hs); replace Hb := Lib.hid (Hb.out.keep hs); replace h0 := Stp.trans h0 hs; clear hs)
    | (go_at_call 21; (with_reducible refine (fewe_s b nb Hnb.out hlb _ _ _ Hb.out).mono ?_); rintro e w4 ⟨rfl, hs⟩; rw [HG.out]; replace Ha := Lib.hid (Ha.out.keep hs); replace Hb := Lib.hid (Hb.out.keep hs); replace h0 := Stp.trans h0 hs; clear hs; obtain ⟨bl, ol, rfl, -, q0, -⟩ := Ha.out.cells (j := j) Hx.out; have hcl := Ha.out.1; rw [Hna.out] at hcl)
    | (go_at_call 22; (with_reducible refine (HI.out.gather a (j + 1) Hna.out ga Hba.out ts is mt HT.out Hmt.out _ _ _ Ha.out).mono ?_); rintro e5 w5 ⟨B5, d5, rfl, hr5, hs⟩; have RT := Lib.hid hr5; replace Ha := Lib.hid (Ha.out.keep hs); replace Hb := Lib.hid (Hb.out.keep hs); replace h0 := Stp.trans h0 hs; clear hs hr5)
    | (go_at_call 22; (with_reducible refine (HI.out.gather b nb Hnb.out gb Hbb.out us can mu HU.out Hmu.out _ _ _ Hb.out).mono ?_); rintro e6 w6 ⟨B6, d6, rfl, hr6, hs⟩; have RU := Lib.hid hr6; replace RT := Lib.hid (RT.out.keep hs); replace Ha := Lib.hid (Ha.out.keep hs); replace Hb := Lib.hid (Hb.out.keep hs); replace h0 := Stp.trans h0 hs; clear hs hr6)
    | (at_builtin; refine Parse.wpList_app_evs w6 (by rfl) _ (.tmp 67) rfl w6.heap.size (.slice none 0 0) [] rfl (RowE.nil w6 w6.heap.size) a _ (j + 1) _ rfl Ha.out Hna.out L1.out (Nat.le_refl _) ?_; intro v7 w7 hR hg; have hs := stpE_here (RowE.nil w6 w6.heap.size) (Nat.le_refl _) hg; replace Hb := Lib.hid (Hb.out.keep hs); have HR7 := Lib.hid (show RowE w7 w6.heap.size v7 a from hR); have Hs7 := Lib.hid hs; clear hs hR hg)
    | (at_builtin; refine Parse.wpList_app_evs w7 (by rfl) _ (.tmp 69) rfl w6.heap.size v7 a rfl HR7.out b _ nb _ rfl Hb.out Hnb.out L2.out Hs7.out.size ?_; intro v8 w8 hR hg; have hs := RowE.stp HR7.out Hs7.out (Nat.le_refl _) hg; clear hg; obtain ⟨A8, c8, rfl, hL8⟩ := rowE_n hR Hab.out; have HL8 := Lib.hid hL8; replace RT := Lib.hid (RT.out.keep hs); replace RU := Lib.hid (RU.out.keep hs); replace h0 := Stp.trans h0 hs; clear hs hR hL8)
    | (go_at_call 22; (with_reducible refine (HI.out.gather (a ++ b) (j + 1 + nb) Hab.out gN Hbab.out vs all mv HV.out Hmv.out _ _ _ HL8.out).mono ?_); rintro e9 w9 ⟨B9, d9, rfl, hr9, hs⟩; have RV := Lib.hid hr9; replace RT := Lib.hid (RT.out.keep hs); replace RU := Lib.hid (RU.out.keep hs); replace h0 := Stp.trans h0 hs; clear hs hr9))
  have H0 := Lib.hid h0
  have hmt5 : mt ≤ d5 := by have := RT.out.1; rw [Hmt.out] at this; exact this
  have hmu6 : mu ≤ d6 := by have := RU.out.1; rw [Hmu.out] at this; exact this
  have hmv9 : mv ≤ d9 := by have := RV.out.1; rw [Hmv.out] at this; exact this
  have hng := Tree.noGuardN
  clear h0
  rcases hcase with ⟨rfl, rfl, gm⟩ | ⟨rfl, rfl, gvs, gm⟩
  · have ge : ((mv : Int) == (mt : Int)) = true := by rw [gm]; exact beq_self_eq_true _
    have ge' : (mv == mt) = true := by rw [gm]; exact beq_self_eq_true _
    subst gm
    go_wp2_with fail
    go_ret
    exact ⟨rfl, H0.out⟩
  · have gw : IntKind.i64.wrap ((mt : Int) + (mu : Int)) = ((mt + mu : Nat) : Int) := by rw [IntKind.wrap_i64]; omega
    subst gm
    have gw2 : (((mt + mu : Nat) : Int) != ((mt + mu : Nat) : Int)) = false := by simp
    have Gvs := Lib.hid gvs
    clear gvs
    go_wp2_with fail
    go_loopw [14] (fun i wr => ∃ k : Nat, k ≤ mt + mu ∧ i = .int .i64 (k : Int) ∧ Hid (Stp w9 wr)) (fun i _ => mt + mu - (intOf i).toNat)
    case atStart => exact ⟨0, by omega, rfl, Lib.hid (Stp.refl w9)⟩
    case round =>
      obtain ⟨k, hk, rfl, H2⟩ := hrel
      by_cases hlt : k < mt + mu
      · obtain ⟨x, hx⟩ : ∃ x, vs[k]? = some x := ⟨_, List.getElem?_eq_getElem (by rw [Hmv.out]; exact hlt)⟩
        have heq : ∀ w, (Op.equalIn 10000 23 (nv x) (nv x)).run Try.prog w = .ok true w := fun w => by rw [Tree.eq_nodes]; simp
        have hxv := hx
        rw [Gvs.out] at hxv
        obtain ⟨b3, o3, rfl, -, q0, q1, q2, q3, q4, q5, q6, q7⟩ := (RV.out.keep H2.out).cells hx
        have gl : decide ((k : Int) < ((mt : Int) + (mu : Int))) = true := decide_eq_true (by omega)
        by_cases hkt : k < mt
        · rw [List.getElem?_append_left (by rw [Hmt.out]; exact hkt)] at hxv
          obtain ⟨b4, o4, rfl, -, r0, r1, r2, r3, r4, r5, r6, r7⟩ := (RT.out.keep H2.out).cells hxv
          have g1 : decide (k < mt) = true := decide_eq_true hkt
          have g2 : decide (mt ≤ k) = false := decide_eq_false (by omega)
          clear hx hxv
          go_wp2_with fail
          go_quiet (fail)
          go_wp2_with fail
          go_roundw
          case rel => exact ⟨k + 1, by omega, by go_num, Lib.hid (H2.out.drewN _)⟩
          case measure => simp [intOf]; omega
        · rw [List.getElem?_append_right (by rw [Hmt.out]; omega), Hmt.out] at hxv
          obtain ⟨b4, o4, rfl, -, r0, r1, r2, r3, r4, r5, r6, r7⟩ := (RU.out.keep H2.out).cells hxv
          have g1 : decide (k < mt) = false := decide_eq_false hkt
          have g2 : decide (mt ≤ k) = true := decide_eq_true (by omega)
          have gi : IntKind.i64.wrap ((k : Int) - (mt : Int)) = ((k - mt : Nat) : Int) := by rw [IntKind.wrap_i64]; omega
          have gj : k - mt < mu := by omega
          clear hx hxv
          go_wp2_with fail
          go_quiet (fail)
          go_wp2_with fail
          go_roundw
          case rel => exact ⟨k + 1, by omega, by go_num, Lib.hid (H2.out.drewN _)⟩
          case measure => simp [intOf]; omega
      · obtain rfl : k = mt + mu := by omega
        go_wp2_with fail
        go_ret
        exact ⟨rfl, Stp.trans H0.out H2.out⟩
theorem gathers_s (I : ReadI) (a b : List Evt) (na nb : Nat) (hna : a.length = na) (hnb : b.length = nb) (A B : Option Addr) (c d : Nat) (w : World) (ha : RdE w A c a) (hb : RdE w B d b) (hla : na < 9223372036854775808) (hlb : nb < 9223372036854775808) :
    Calls Try.prog 6 #[.slice A na c, .slice B nb d] w fun e w' => e = .returned (.bool true) ∧ Stp w w' := by
  by_cases hF : fewE a = true
  · by_cases hG : fewE b = true
    · by_cases h30 : na ≤ 30
      · by_cases h31 : nb ≤ 30
        · cases na with
          | zero => exact gathers_m0 I a b 0 nb hna hnb A B c d w ha hb hla hlb hF hG h30 h31 (List.eq_nil_of_length_eq_zero hna)
          | succ j =>
            obtain ⟨x, hx⟩ : ∃ x, a[j]? = some x := ⟨_, List.getElem?_eq_getElem (by rw [hna]; omega)⟩
            by_cases hk : x.kind = 2
            · exact gathers_m1 I a b (j + 1) nb hna hnb A B c d w ha hb hla hlb hF hG h30 h31 j rfl x hx hk
            · exact gathers_n5 I a b (j + 1) nb hna hnb A B c d w ha hb hla hlb hF hG h30 h31 j rfl x hx hk
        · exact gathers_n4 I a b na nb hna hnb A B c d w ha hb hla hlb hF hG h30 (by omega)
      · exact gathers_n3 I a b na nb hna hnb A B c d w ha hb hla hlb hF hG (by omega)
    · exact gathers_n2 I a b na nb hna hnb A B c d w ha hb hla hlb hF (by simpa using hG)
  · exact gathers_n1 I a b na nb hna hnb A B c d w ha hb hla hlb (by simpa using hF) _ rfl
end Go.Proofs.Ytieefnnfnimflaa.Read
