/-
  The law DriveFills, walked over the contracts: no statement is proved here.
-/
import Derived.Test.YtaknnkcfoafkdaaDriveA
import Derived.Deep.CutRange
namespace Go.Proofs.Ytaknnkcfoafkdaa.Drive
open Go.RowKit Go.Proofs.Ytaknnkcfoafkdaa.Str Go.Proofs.Ytaknnkcfoafkdaa.Base Go.Proofs.Ytaknnkcfoafkdaa.BlockM Go.Proofs.Ytaknnkcfoafkdaa.RecM Go.Proofs.Ytaknnkcfoafkdaa.TapeM Go.Proofs.Ytaknnkcfoafkdaa.Tape Go.Proofs.Ytaknnkcfoafkdaa.DriveM
set_option linter.unusedVariables false

/-- A drive that is being filled: m records behind the place p0 of tape j, of room c, or up to its end. -/
structure Fil (ts : List Tp) (i : Int) (j n p0 : Nat) (c : Int) (us : List Tp) (pm m : Nat) : Prop where
  may : mayD ⟨us, i, (pm : Int)⟩ = true
  len : us.length = n
  at_ : ∃ t, us[j]? = some t ∧ t.cap = c ∧ pm ≤ t.rows.length
  low : (m : Int) ≤ c - (p0 : Int) → pm = p0 + m
  high : c - (p0 : Int) ≤ (m : Int) → (pm : Int) = c
theorem Fil.next {ts : List Tp} {i : Int} {j n p0 : Nat} {c : Int} {us : List Tp} {pm m : Nat} {z : L} (h : Fil ts i j n p0 c us pm m) (hij : i = (j : Int)) (hz : mayR z = true) :
    ∃ (us' : List Tp) (pm' e0 : Nat), writeD ⟨us, i, (pm : Int)⟩ z = (⟨us', i, (pm' : Int)⟩, e0) ∧ Fil ts i j n p0 c us' pm' (m + 1) ∧ ((e0 = 0 ∧ (m : Int) < c - (p0 : Int)) ∨ (e0 = 8 ∧ ¬ (m : Int) < c - (p0 : Int))) := by
  obtain ⟨h1, h2, ⟨t, h3, h4, h5⟩, h6, h7⟩ := h
  obtain ⟨k1, k2⟩ := writeD_when h1 hij rfl h3 h5 hz
  by_cases hr : (m : Int) < c - (p0 : Int)
  · have hp := h6 (by omega)
    obtain ⟨j2, p2, t2, -, e1, e2, e3, -, e5, e6, -, e8, e9, e10⟩ := writeD_ok (k1.2 (by omega))
    dsimp only at e1 e2 e3
    have ej : j2 = j := by omega
    have ep : p2 = pm := by omega
    subst ej ep
    rw [h3] at e3
    cases e3
    refine ⟨us.set j2 ⟨t.cap, t.rows.take p2 ++ [z], false⟩, p2 + 1, 0, by rw [e9, hij]; try rfl, ⟨?_, by rw [List.length_set]; exact h2, ⟨_, List.getElem?_set_self (List.getElem?_eq_some_iff.1 h3).1, h4, by simp [List.length_take]; omega⟩, fun _ => by omega, fun _ => by omega⟩, .inl ⟨rfl, hr⟩⟩
    rw [e9] at e10
    rw [hij]
    exact e10
  · have hp := h7 (by omega)
    have hne : ¬ (writeD ⟨us, i, (pm : Int)⟩ z).2 = 0 := fun e => by
      have := k1.1 e
      omega
    have h8 : (writeD ⟨us, i, (pm : Int)⟩ z).2 = 8 := by
      rcases k2 with h | h
      · exact absurd h hne
      · exact h
    exact ⟨us, pm, 8, Prod.ext (writeD_err hne) h8, ⟨h1, h2, ⟨t, h3, h4, h5⟩, fun _ => by omega, fun _ => hp⟩, .inr ⟨rfl, hr⟩⟩
theorem new_osh {w3 W0 W : World} {g : Nat} {A : Option Addr} {n k : Nat} {i p : Int} {ts : List Tp} (h0 : Stp W W0) (hs : Stp W0 w3) (ho : Osh W0.heap.size w3 A k ts) (hg : g < W0.heap.size) :
    Blk (w3.alloc (.cells (dcs A n k i p) 24)) w3.heap.size 24 (dcs A n k i p) ∧ ClearS g (w3.alloc (.cells (dcs A n k i p) 24)) A k ts ∧ Stp W (w3.alloc (.cells (dcs A n k i p) 24)) :=
  ⟨Blk.new w3 _ _, (ho.keep (Stp.alloc (Stp.refl w3) _)).clear hg, Stp.alloc (Stp.trans h0 hs) _⟩
theorem fill_osh {w3 W0 W : World} {g q : Nat} {A : Option Addr} {n k : Nat} {i p : Int} {ts : List Tp} (h0 : Stp W W0) (hs : Stp W0 w3) (hp : W.heap.size ≤ q) (hN : Blk W0 q 24 (dcs none 0 0 0 0)) (ho : Osh W0.heap.size w3 A k ts) (hg : g < W.heap.size) :
    Blk (fillD w3 q A n k i p) q 24 (dcs A n k i p) ∧ ClearS g (fillD w3 q A n k i p) A k ts ∧ Stp W (fillD w3 q A n k i p) := by
  obtain ⟨h1, h2, h3⟩ := osh_at (n := n) (i := i) (p := p) (hN.keep hs hN.lt) (Stp.trans h0 hs) ho hp hN.lt
  exact ⟨h1, h2.clear hg, h3⟩
set_option maxRecDepth 100000 in
set_option maxHeartbeats 2000000 in
theorem fills_no (I : DriveI) (hAw : ∀ w : World, Calls Try.prog 9 #[] w fun e w' => e = .returned (.bool true) ∧ Stp w w') (ts : List Tp) (i p : Int) (n : Nat) (hs : SmallD ⟨ts, i, p⟩) (hn : ts.length = n) (A : Option Addr) (k : Nat) (w : World) (ha : RdS w A k ts) (q : Int) (hq0 : -9223372036854775808 ≤ q) (hq1 : q < 9223372036854775808) (hx1 : fewDB ts = false) :
    Calls Try.prog 8 #[dc A n k i p, .int .i64 q] w fun e w' => e = .returned (.bool true) ∧ Stp w w' := by
  have HI := Lib.hid I
  have HAw := Lib.hid hAw
  have HS := Lib.hid hs
  have Ha := Lib.hid ha
  have Hn := Lib.hid hn
  have h0 := Stp.alloc (Stp.refl w) (.cells (dcs A n k i p) 24)
  have H := Lib.hid h0
  have B0 := Lib.hid (Blk.new w 24 (dcs A n k i p))
  obtain ⟨⟨q0, q1, q2⟩, -, -, -⟩ := dd_all B0.out
  have HX1 := Lib.hid hx1
  clear hs ha h0 hAw I hx1
  go_enter Try.func8, Try.ntmps8
  go_wp2_with (first
    | (go_at_call 9; refine (HAw.out _).mono ?_; rintro e wn ⟨rfl, hs⟩; replace H := Lib.hid (Stp.trans H.out hs); replace B0 := Lib.hid (B0.out.keep hs B0.out.lt); clear q0 q1 q2; obtain ⟨⟨q0, q1, q2⟩, -, -, -⟩ := dd_all B0.out; clear hs)
    | (go_at_call 10; (with_reducible refine (few_s ts i p n HS.out Hn.out _ HX1.out A k _ (Ha.out.keep H.out)).mono ?_); rintro e wn ⟨rfl, hs⟩; replace H := Lib.hid (Stp.trans H.out hs); replace B0 := Lib.hid (B0.out.keep hs B0.out.lt); clear q0 q1 q2; obtain ⟨⟨q0, q1, q2⟩, -, -, -⟩ := dd_all B0.out; clear hs))
  go_ret
  exact ⟨rfl, H.out⟩
set_option maxRecDepth 100000 in
set_option maxHeartbeats 2000000 in
theorem fills_may (I : DriveI) (hAw : ∀ w : World, Calls Try.prog 9 #[] w fun e w' => e = .returned (.bool true) ∧ Stp w w') (ts : List Tp) (i p : Int) (n : Nat) (hs : SmallD ⟨ts, i, p⟩) (hn : ts.length = n) (A : Option Addr) (k : Nat) (w : World) (ha : RdS w A k ts) (q : Int) (hq0 : -9223372036854775808 ≤ q) (hq1 : q < 9223372036854775808) (hx1 : fewDB ts = true) (hM : mayD ⟨ts, i, p⟩ = false) :
    Calls Try.prog 8 #[dc A n k i p, .int .i64 q] w fun e w' => e = .returned (.bool true) ∧ Stp w w' := by
  have HI := Lib.hid I
  have HAw := Lib.hid hAw
  have HS := Lib.hid hs
  have Ha := Lib.hid ha
  have Hn := Lib.hid hn
  have h0 := Stp.alloc (Stp.refl w) (.cells (dcs A n k i p) 24)
  have H := Lib.hid h0
  have B0 := Lib.hid (Blk.new w 24 (dcs A n k i p))
  obtain ⟨⟨q0, q1, q2⟩, -, -, -⟩ := dd_all B0.out
  have HX1 := Lib.hid hx1
  have HM := Lib.hid hM
  have HD := Lib.hid (fewD_of hs hx1)
  clear hs ha h0 hAw I hx1 hM
  go_enter Try.func8, Try.ntmps8
  go_wp2_with (first
    | (go_at_call 9; refine (HAw.out _).mono ?_; rintro e wn ⟨rfl, hs⟩; replace H := Lib.hid (Stp.trans H.out hs); replace B0 := Lib.hid (B0.out.keep hs B0.out.lt); clear q0 q1 q2; obtain ⟨⟨q0, q1, q2⟩, -, -, -⟩ := dd_all B0.out; clear hs)
    | (go_at_call 10; (with_reducible refine (few_s ts i p n HS.out Hn.out _ HX1.out A k _ (Ha.out.keep H.out)).mono ?_); rintro e wn ⟨rfl, hs⟩; replace H := Lib.hid (Stp.trans H.out hs); replace B0 := Lib.hid (B0.out.keep hs B0.out.lt); clear q0 q1 q2; obtain ⟨⟨q0, q1, q2⟩, -, -, -⟩ := dd_all B0.out; clear hs)
    | (go_at_call 27; (with_reducible refine (HI.out.may ts i p n HD.out Hn.out _ HM.out A k _ (Ha.out.keep H.out)).mono ?_); rintro e wn ⟨rfl, hs⟩; replace H := Lib.hid (Stp.trans H.out hs); replace B0 := Lib.hid (B0.out.keep hs B0.out.lt); clear q0 q1 q2; obtain ⟨⟨q0, q1, q2⟩, -, -, -⟩ := dd_all B0.out; clear hs))
  all_goals go_ret
  all_goals exact ⟨rfl, H.out⟩
set_option maxRecDepth 100000 in
set_option maxHeartbeats 2000000 in
theorem fills_out (I : DriveI) (hAw : ∀ w : World, Calls Try.prog 9 #[] w fun e w' => e = .returned (.bool true) ∧ Stp w w') (ts : List Tp) (i p : Int) (n : Nat) (hs : SmallD ⟨ts, i, p⟩) (hn : ts.length = n) (A : Option Addr) (k : Nat) (w : World) (ha : RdS w A k ts) (q : Int) (hq0 : -9223372036854775808 ≤ q) (hq1 : q < 9223372036854775808) (hx1 : fewDB ts = true) (hM : mayD ⟨ts, i, p⟩ = true) (h : i < 0 ∨ (0 ≤ i ∧ (q < 0 ∨ 40 < q))) :
    Calls Try.prog 8 #[dc A n k i p, .int .i64 q] w fun e w' => e = .returned (.bool true) ∧ Stp w w' := by
  have HI := Lib.hid I
  have HAw := Lib.hid hAw
  have HS := Lib.hid hs
  have Ha := Lib.hid ha
  have Hn := Lib.hid hn
  have h0 := Stp.alloc (Stp.refl w) (.cells (dcs A n k i p) 24)
  have H := Lib.hid h0
  have B0 := Lib.hid (Blk.new w 24 (dcs A n k i p))
  obtain ⟨⟨q0, q1, q2⟩, -, -, -⟩ := dd_all B0.out
  have HX1 := Lib.hid hx1
  have HM := Lib.hid hM
  have HD := Lib.hid (fewD_of hs hx1)
  clear hs ha h0 hAw I hx1 hM
  rcases h with h | ⟨h1, h | h⟩
  · have g1 : decide (i < 0) = true := decide_eq_true h
    go_enter Try.func8, Try.ntmps8
    go_wp2_with (first
      | (go_at_call 9; refine (HAw.out _).mono ?_; rintro e wn ⟨rfl, hs⟩; replace H := Lib.hid (Stp.trans H.out hs); replace B0 := Lib.hid (B0.out.keep hs B0.out.lt); clear q0 q1 q2; obtain ⟨⟨q0, q1, q2⟩, -, -, -⟩ := dd_all B0.out; clear hs)
      | (go_at_call 10; (with_reducible refine (few_s ts i p n HS.out Hn.out _ HX1.out A k _ (Ha.out.keep H.out)).mono ?_); rintro e wn ⟨rfl, hs⟩; replace H := Lib.hid (Stp.trans H.out hs); replace B0 := Lib.hid (B0.out.keep hs B0.out.lt); clear q0 q1 q2; obtain ⟨⟨q0, q1, q2⟩, -, -, -⟩ := dd_all B0.out; clear hs)
      | (go_at_call 27; (with_reducible refine (HI.out.may ts i p n HD.out Hn.out _ HM.out A k _ (Ha.out.keep H.out)).mono ?_); rintro e wn ⟨rfl, hs⟩; replace H := Lib.hid (Stp.trans H.out hs); replace B0 := Lib.hid (B0.out.keep hs B0.out.lt); clear q0 q1 q2; obtain ⟨⟨q0, q1, q2⟩, -, -, -⟩ := dd_all B0.out; clear hs))
    all_goals go_ret
    all_goals exact ⟨rfl, H.out⟩
  · have g1 : decide (i < 0) = false := decide_eq_false (by omega)
    have g2 : decide (q < 0) = true := decide_eq_true h
    go_enter Try.func8, Try.ntmps8
    go_wp2_with (first
      | (go_at_call 9; refine (HAw.out _).mono ?_; rintro e wn ⟨rfl, hs⟩; replace H := Lib.hid (Stp.trans H.out hs); replace B0 := Lib.hid (B0.out.keep hs B0.out.lt); clear q0 q1 q2; obtain ⟨⟨q0, q1, q2⟩, -, -, -⟩ := dd_all B0.out; clear hs)
      | (go_at_call 10; (with_reducible refine (few_s ts i p n HS.out Hn.out _ HX1.out A k _ (Ha.out.keep H.out)).mono ?_); rintro e wn ⟨rfl, hs⟩; replace H := Lib.hid (Stp.trans H.out hs); replace B0 := Lib.hid (B0.out.keep hs B0.out.lt); clear q0 q1 q2; obtain ⟨⟨q0, q1, q2⟩, -, -, -⟩ := dd_all B0.out; clear hs)
      | (go_at_call 27; (with_reducible refine (HI.out.may ts i p n HD.out Hn.out _ HM.out A k _ (Ha.out.keep H.out)).mono ?_); rintro e wn ⟨rfl, hs⟩; replace H := Lib.hid (Stp.trans H.out hs); replace B0 := Lib.hid (B0.out.keep hs B0.out.lt); clear q0 q1 q2; obtain ⟨⟨q0, q1, q2⟩, -, -, -⟩ := dd_all B0.out; clear hs))
    all_goals go_ret
    all_goals exact ⟨rfl, H.out⟩
  · have g1 : decide (i < 0) = false := decide_eq_false (by omega)
    have g2 : decide (q < 0) = false := decide_eq_false (by omega)
    have g3 : decide ((40 : Int) < q) = true := decide_eq_true h
    go_enter Try.func8, Try.ntmps8
    go_wp2_with (first
      | (go_at_call 9; refine (HAw.out _).mono ?_; rintro e wn ⟨rfl, hs⟩; replace H := Lib.hid (Stp.trans H.out hs); replace B0 := Lib.hid (B0.out.keep hs B0.out.lt); clear q0 q1 q2; obtain ⟨⟨q0, q1, q2⟩, -, -, -⟩ := dd_all B0.out; clear hs)
      | (go_at_call 10; (with_reducible refine (few_s ts i p n HS.out Hn.out _ HX1.out A k _ (Ha.out.keep H.out)).mono ?_); rintro e wn ⟨rfl, hs⟩; replace H := Lib.hid (Stp.trans H.out hs); replace B0 := Lib.hid (B0.out.keep hs B0.out.lt); clear q0 q1 q2; obtain ⟨⟨q0, q1, q2⟩, -, -, -⟩ := dd_all B0.out; clear hs)
      | (go_at_call 27; (with_reducible refine (HI.out.may ts i p n HD.out Hn.out _ HM.out A k _ (Ha.out.keep H.out)).mono ?_); rintro e wn ⟨rfl, hs⟩; replace H := Lib.hid (Stp.trans H.out hs); replace B0 := Lib.hid (B0.out.keep hs B0.out.lt); clear q0 q1 q2; obtain ⟨⟨q0, q1, q2⟩, -, -, -⟩ := dd_all B0.out; clear hs))
    all_goals go_ret
    all_goals exact ⟨rfl, H.out⟩
set_option maxRecDepth 100000 in
set_option maxHeartbeats 8000000 in
theorem fills_ok (I : DriveI) (hAw : ∀ w : World, Calls Try.prog 9 #[] w fun e w' => e = .returned (.bool true) ∧ Stp w w') (ts : List Tp) (i p : Int) (n : Nat) (hs : SmallD ⟨ts, i, p⟩) (hn : ts.length = n) (A : Option Addr) (k : Nat) (w : World) (ha : RdS w A k ts) (q : Int) (hq0 : -9223372036854775808 ≤ q) (hq1 : q < 9223372036854775808) (j p0 y : Nat) (hij : i = (j : Int)) (hpp : p = (p0 : Int)) (t : Tp) (ht : ts[j]? = some t) (hy : t.rows.length = y) (hp0 : p0 ≤ y) (hq2 : 0 ≤ q ∧ q ≤ 40) (hx1 : fewDB ts = true) (hM : mayD ⟨ts, i, p⟩ = true) :
    Calls Try.prog 8 #[dc A n k i p, .int .i64 q] w fun e w' => e = .returned (.bool true) ∧ Stp w w' := by
  have HI := Lib.hid I
  have HAw := Lib.hid hAw
  have HS := Lib.hid hs
  have Ha := Lib.hid ha
  have Hn := Lib.hid hn
  have h0 := Stp.alloc (Stp.refl w) (.cells (dcs A n k i p) 24)
  have H := Lib.hid h0
  have B0 := Lib.hid (Blk.new w 24 (dcs A n k i p))
  obtain ⟨⟨q0, q1, q2⟩, -, -, -⟩ := dd_all B0.out
  have HX1 := Lib.hid hx1
  have HM := Lib.hid hM
  have HD := Lib.hid (fewD_of hs hx1)
  have hjl := (List.getElem?_eq_some_iff.1 ht).1
  have hjn : j < n := by rw [← hn]; exact hjl
  have hn9 : n ≤ 1000 := by rw [← hn]; exact HD.out.few
  have hji : i.toNat = j := by omega
  have hi0 : 0 ≤ i := by omega
  have hin : i < (n : Int) := by omega
  have hmt := (mayD_iff.1 hM).2.2.2.2.1 t (List.mem_of_getElem? ht)
  obtain ⟨c, hc⟩ : ∃ c, t.cap = c := ⟨_, rfl⟩
  obtain ⟨c1, c2, c3, -⟩ := mayT_iff.1 hmt
  rw [hc] at c1 c2 c3
  rw [hy] at c3
  have hq40 := hq2.2
  have hq41 := hq2.1
  have g1 : decide (i < 0) = false := decide_eq_false (by omega)
  have g2 : decide (q < 0) = false := decide_eq_false (by omega)
  have g3 : decide ((40 : Int) < q) = false := decide_eq_false (by omega)
  obtain ⟨rm, hrm⟩ : ∃ x, c - p = x := ⟨_, rfl⟩
  have Hw := Lib.hid (show wrap64 rm = rm by unfold wrap64; omega)
  have HF0 : Hid (Fil ts i j n p0 c ts p0 0) := Lib.hid ⟨by rw [hpp] at hM; exact hM, hn, ⟨t, ht, hc, by omega⟩, fun _ => rfl, fun h => by omega⟩
  obtain ⟨z, hz⟩ : ∃ z, noughts 512 = z := ⟨_, rfl⟩
  have f0 : z.length = 512 := by rw [← hz, noughts_length]
  have Hmz : Hid (mayR z = true) := Lib.hid (mayR_iff.2 ⟨by omega, by omega, by omega⟩)
  have Hz := Lib.hid hz
  have F0 := Lib.hid f0
  obtain ⟨zs, hzs⟩ : ∃ zs : Array Value, Array.replicate 512 (Value.int .u8 0) = zs := ⟨_, rfl⟩
  have hmk := mk_zs hzs
  have Hzs := Lib.hid hzs
  have Ht := Lib.hid ht
  have Hy := Lib.hid hy
  have Hc := Lib.hid hc
  have Hij := Lib.hid hij
  have Hpp := Lib.hid hpp
  have Hrm := Lib.hid hrm
  clear hs ha h0 hAw I hx1 hM ht hy hjl hij hpp hmt hc hz f0 hzs hrm hq2
  go_enter Try.func8, Try.ntmps8
  go_upto_region 6 with (first
    | (go_at_call 9; refine (HAw.out _).mono ?_; rintro e wn ⟨rfl, hs⟩; replace H := Lib.hid (Stp.trans H.out hs); replace B0 := Lib.hid (B0.out.keep hs B0.out.lt); clear q0 q1 q2; obtain ⟨⟨q0, q1, q2⟩, -, -, -⟩ := dd_all B0.out; clear hs)
    | (go_at_call 10; (with_reducible refine (few_s ts i p n HS.out Hn.out _ HX1.out A k _ (Ha.out.keep H.out)).mono ?_); rintro e wn ⟨rfl, hs⟩; replace H := Lib.hid (Stp.trans H.out hs); replace B0 := Lib.hid (B0.out.keep hs B0.out.lt); clear q0 q1 q2; obtain ⟨⟨q0, q1, q2⟩, -, -, -⟩ := dd_all B0.out; clear hs)
    | (go_at_call 27; (with_reducible refine (HI.out.may ts i p n HD.out Hn.out _ HM.out A k _ (Ha.out.keep H.out)).mono ?_); rintro e wn ⟨rfl, hs⟩; replace H := Lib.hid (Stp.trans H.out hs); replace B0 := Lib.hid (B0.out.keep hs B0.out.lt); clear q0 q1 q2; obtain ⟨⟨q0, q1, q2⟩, -, -, -⟩ := dd_all B0.out; clear hs))
  have HBx := Lib.hid (B0.out.alloc (.cells (dcs A n k i p) 24))
  have Hx := Lib.hid (show Stp w (wn.alloc (.cells (dcs A n k i p) 24)) from Stp.alloc H.out _)
  have D7 := Lib.hid (Blk.new wn 24 (dcs A n k i p))
  have C7 := Lib.hid (ClearS.new (g := wn.heap.size) (Ha.out.keep H.out) (Stp.alloc (Stp.refl wn) (.cells (dcs A n k i p) 24)) (Nat.le_refl _))
  have hB7 : w.heap.size + 1 ≤ wn.heap.size := B0.out.lt
  obtain ⟨W, hW⟩ : ∃ z, wn.alloc (.cells (dcs A n k i p) 24) = z := ⟨_, rfl⟩
  rw [hW] at HBx Hx D7 C7 ⊢
  obtain ⟨g, hg⟩ : ∃ x, wn.heap.size = x := ⟨_, rfl⟩
  rw [hg] at D7 C7 hB7 ⊢
  clear hW hg q0 q1 q2
  obtain ⟨⟨q0, q1, q2⟩, -, -, -⟩ := dd_all HBx.out
  obtain ⟨bX, oX, AX, kX, rfl, tx⟩ := tp_at (Ha.out.keep Hx.out) Ht.out Hy.out
  rw [Hc.out] at tx
  have x0 := tx.c0
  clear tx
  go_quiet (fail)
  have Xn := Lib.hid (show Stp W (W.drewN nq) from Stp.drewN (Stp.refl W) nq)
  replace HBx := Lib.hid (HBx.out.keep Xn.out HBx.out.lt)
  replace Hx := Lib.hid (Stp.trans Hx.out Xn.out)
  replace D7 := Lib.hid (D7.out.keep Xn.out D7.out.lt)
  replace C7 := Lib.hid (C7.out.keep Xn.out)
  clear q0 q1 q2 x0
  generalize W.drewN nq = W1 at HBx Hx D7 C7 ⊢
  rw [Hrm.out]
  simp only [Hw.out]
  go_wp2
  go_loopw [9] (fun kv wr => ∃ (m : Nat) (us : List Tp) (pm : Nat), (m : Int) ≤ q ∧ kv = .int .i64 (m : Int) ∧ Hid (Fil ts i j n p0 c us pm m) ∧ Hid (∃ A9 k9, Blk wr g 24 (dcs A9 n k9 i (pm : Int)) ∧ ClearS g wr A9 k9 us) ∧ Hid (Below g W1 wr)) (fun kv _ => 41 - (intOf kv).toNat)
  case atStart => exact ⟨0, ts, p0, by omega, rfl, HF0, Lib.hid ⟨_, _, by rw [← Hpp.out]; exact D7.out, C7.out⟩, Lib.hid (Below.refl _ _)⟩
  case round =>
    obtain ⟨m, us, pm, hm, rfl, HF, HL, HB⟩ := hrel
    obtain ⟨A9, k9, hD9, hC9⟩ := HL.out
    have D9 := Lib.hid hD9
    have C9 := Lib.hid hC9
    have HS := Lib.hid (show Stp w wr from Below.trans Hx.out (Below.mono HB.out (by omega)))
    have B9 := Lib.hid (HBx.out.keep HB.out (by omega))
    have RD9 := Lib.hid hC9.rd
    have FD9 := Lib.hid (few_may HF.out.may)
    obtain ⟨⟨aa0, aa1, aa2⟩, aa3, aa4, aa5⟩ := dd_all hD9
    clear HL hD9 hC9
    by_cases hlt : (m : Int) < q
    · have g5 : decide ((m : Int) < q) = true := decide_eq_true hlt
      obtain ⟨us', pm', e0, hv, hF', hcase⟩ := HF.out.next Hij.out Hmz.out
      obtain ⟨ei, hei⟩ : ∃ x : Int, (e0 : Int) = x := ⟨_, rfl⟩
      have HV := Lib.hid hv
      have HF2 := Lib.hid hF'
      have HE := Lib.hid hei
      have HC := Lib.hid hcase
      clear hv hF' hei hcase
      go_upto_region 10 with fail
      go_cut [10, 11] from 56 to 76 (fun s10 s11 wx => ∃ p10 A8 k8, s10 = .pointer (some ⟨p10, 0, none⟩) ∧ s11 = .int .i64 ei ∧ Hid (Blk wx p10 24 (dcs A8 n k8 i (pm' : Int))) ∧ Hid (ClearS g wx A8 k8 us') ∧ Hid (Stp wr wx))
      case first =>
        obtain ⟨⟨q0, q1, q2⟩, -, -, -⟩ := dd_all (Blk.drew D9.out)
        have X1 := Lib.hid (show Stp wr (wr.alloc (.cells zs 5)).drew from Stp.drewN (Stp.alloc (Stp.refl wr) _) 1)
        have X2 := Lib.hid (show Stp wr ((wr.alloc (.cells zs 5)).alloc (.cells #[.slice none 0 0, .int .i64 0, .int .i64 0] 24)).drew from Stp.drewN (Stp.alloc (Stp.alloc (Stp.refl wr) _) _) 1)
        have X3 := Lib.hid (show Stp wr ((wr.alloc (.cells #[.slice none 0 0, .int .i64 0, .int .i64 0] 24)).alloc (.cells zs 5)).drew from Stp.drewN (Stp.alloc (Stp.alloc (Stp.refl wr) _) _) 1)
        obtain ⟨⟨a3, a4, a5⟩, -, -, -⟩ := dd_all (D9.out.alloc (.cells #[.slice none 0 0, .int .i64 0, .int .i64 0] 24))
        obtain ⟨⟨b3, b4, b5⟩, -, -, -⟩ := dd_all (D9.out.alloc (.cells zs 5))
        obtain ⟨⟨c3, c4, c5⟩, -, -, -⟩ := dd_all ((D9.out.alloc (.cells zs 5)).alloc (.cells #[.slice none 0 0, .int .i64 0, .int .i64 0] 24))
        obtain ⟨⟨d3, d4, d5⟩, -, -, -⟩ := dd_all ((D9.out.alloc (.cells #[.slice none 0 0, .int .i64 0, .int .i64 0] 24)).alloc (.cells zs 5))
        have M1 := Lib.hid ((mk_at Hzs.out Hz.out wr).keep (show Stp _ (wr.alloc (.cells zs 5)).drew from Stp.drewN (Stp.refl _) 1))
        have M2 := Lib.hid ((mk_at Hzs.out Hz.out wr).keep (show Stp _ ((wr.alloc (.cells zs 5)).alloc (.cells #[.slice none 0 0, .int .i64 0, .int .i64 0] 24)).drew from Stp.drewN (Stp.alloc (Stp.refl _) _) 1))
        have m3 := (mk_at Hzs.out Hz.out (wr.alloc (.cells #[.slice none 0 0, .int .i64 0, .int .i64 0] 24))).keep (show Stp _ ((wr.alloc (.cells #[.slice none 0 0, .int .i64 0, .int .i64 0] 24)).alloc (.cells zs 5)).drew from Stp.drewN (Stp.refl _) 1)
        have n2 := (Blk.new (wr.alloc (.cells zs 5)) 24 #[.slice none 0 0, .int .i64 0, .int .i64 0]).drew
        rw [World.size_alloc] at n2 m3
        have M3 := Lib.hid m3
        have N2 : Hid (Blk _ (wr.heap.size + 1) 24 (dcs none 0 0 0 0)) := Lib.hid n2
        have N3 : Hid (Blk _ wr.heap.size 24 (dcs none 0 0 0 0)) := Lib.hid (((Blk.new wr 24 #[.slice none 0 0, .int .i64 0, .int .i64 0]).alloc (.cells zs 5)).drew)
        clear n2 m3
        have E1 := Lib.hid (dwrite_o us i (pm : Int) n FD9.out HF.out.len z 512 F0.out (by omega) us' i (pm' : Int) n e0 HV.out HF2.out.len ei HE.out _ _ _ _ _ (RD9.out.keep X1.out) M1.out)
        have E2 := Lib.hid (dwrite_o us i (pm : Int) n FD9.out HF.out.len z 512 F0.out (by omega) us' i (pm' : Int) n e0 HV.out HF2.out.len ei HE.out _ _ _ _ _ (RD9.out.keep X2.out) M2.out)
        have E3 := Lib.hid (dwrite_o us i (pm : Int) n FD9.out HF.out.len z 512 F0.out (by omega) us' i (pm' : Int) n e0 HV.out HF2.out.len ei HE.out _ _ _ _ _ (RD9.out.keep X3.out) M3.out)
        clear aa0 aa1 aa2 aa3 aa4 aa5
        go_region_law (first
          | (go_simp; go_at_call 17; (with_reducible refine (E1.out).mono ?_); rintro e w9 ⟨A8, k8, rfl, ho, hs⟩; have L9 := Lib.hid (new_osh (n := n) (i := i) (p := (pm' : Int)) X1.out hs ho (Nat.lt_of_lt_of_le D9.out.lt X1.out.size)); clear ho hs)
          | (go_simp; go_at_call 17; (with_reducible refine (E2.out).mono ?_); rintro e w9 ⟨A8, k8, rfl, ho, hs⟩; have N := Lib.hid (N2.out.keep hs N2.out.lt); have L9 := Lib.hid (fill_osh (n := n) (i := i) (p := (pm' : Int)) X2.out hs (Nat.le_succ _) N2.out ho D9.out.lt); clear ho hs; obtain ⟨⟨n0, n1, n2⟩, m0, m1, m2⟩ := dd_all N.out)
          | (go_simp; go_at_call 17; (with_reducible refine (E3.out).mono ?_); rintro e w9 ⟨A8, k8, rfl, ho, hs⟩; have N := Lib.hid (N3.out.keep hs N3.out.lt); have L9 := Lib.hid (fill_osh (n := n) (i := i) (p := (pm' : Int)) X3.out hs (Nat.le_refl _) N3.out ho D9.out.lt); clear ho hs; obtain ⟨⟨n0, n1, n2⟩, m0, m1, m2⟩ := dd_all N.out))
        all_goals
          go_wp2_with fail
          go_meet
          with_reducible exact ⟨_, A8, k8, rfl, rfl, Lib.hid L9.out.1, Lib.hid L9.out.2.1, Lib.hid L9.out.2.2⟩
      case rest =>
        obtain ⟨p10, A8, k8, rfl, rfl, HP, HC8, HX8⟩ := hcut
        clear aa0 aa1 aa2 aa3 aa4 aa5
        obtain ⟨⟨aa0, aa1, aa2⟩, aa3, aa4, aa5⟩ := dd_all (D9.out.keep HX8.out D9.out.lt)
        obtain ⟨⟨ab0, ab1, ab2⟩, -, -, -⟩ := dd_all HP.out
        have F1 := Lib.hid (filld_blk A8 n k8 i (pm' : Int) (D9.out.keep HX8.out D9.out.lt))
        have F2 := Lib.hid (HC8.out.fill A8 n k8 i (pm' : Int))
        have hbb : Below g W1 wc := Below.trans HB.out (Below.mono HX8.out (Nat.le_of_lt D9.out.lt))
        have F3 := Lib.hid (show Below g W1 (fillD wc g A8 n k8 i (pm' : Int)) from Below.setCell (Below.setCell (Below.setCell hbb (p := ⟨g, 0, none⟩) (Nat.le_refl _) _) (p := ⟨g, 1, none⟩) (Nat.le_refl _) _) (p := ⟨g, 2, none⟩) (Nat.le_refl _) _)
        clear hbb
        have key : (ei = 0 ∧ decide ((m : Int) < rm) = true) ∨ (ei = 8 ∧ decide ((m : Int) < rm) = false) := by
          have hr := Hrm.out
          have h1 := HE.out
          have h2 := Hpp.out
          rcases HC.out with ⟨h, h'⟩ | ⟨h, h'⟩
          · exact .inl ⟨by omega, decide_eq_true (by omega)⟩
          · exact .inr ⟨by omega, decide_eq_false (by omega)⟩
        rcases key with ⟨rfl, g7⟩ | ⟨rfl, g7⟩
        all_goals
          go_wp2_with fail
          refine ⟨⟨m + 1, us', pm', by omega, by go_num, HF2, Lib.hid ⟨A8, k8, F1.out, F2.out⟩, F3⟩, ?_⟩
          simp [intOf]
          omega
    · have g5 : decide ((m : Int) < q) = false := decide_eq_false hlt
      have H := HS
      obtain ⟨⟨q0, q1, q2⟩, -, -, -⟩ := dd_all B9.out
      have gi : (i == i) = true := by simp
      have gn : ((n : Int) == (n : Int)) = true := by simp
      clear aa3 aa4 aa5
      go_wp2_with (go_at_call 27; (with_reducible refine (HI.out.may us i (pm : Int) n FD9.out HF.out.len true HF.out.may A9 k9 _ RD9.out).mono ?_); rintro e w9 ⟨rfl, hs⟩; have B10 := Lib.hid (B9.out.keep hs B9.out.lt); have D10 := Lib.hid (D9.out.keep hs D9.out.lt); replace H := Lib.hid (Stp.trans H.out hs); clear hs q0 q1 q2 aa0 aa1 aa2; obtain ⟨⟨q0, q1, q2⟩, -, -, -⟩ := dd_all B10.out; obtain ⟨⟨aa0, aa1, aa2⟩, -, -, -⟩ := dd_all D10.out)
      all_goals go_ret
      all_goals exact ⟨rfl, H.out⟩
theorem fills_walk (I : DriveI) (hAw : ∀ w : World, Calls Try.prog 9 #[] w fun e w' => e = .returned (.bool true) ∧ Stp w w') (d : Dr) (hs : SmallD d) (n : Nat) (hn : d.shelf.length = n) (A : Option Addr) (k : Nat) (w : World) (ha : RdS w A k d.shelf) (q : Int) (hq0 : -9223372036854775808 ≤ q) (hq1 : q < 9223372036854775808) :
    Calls Try.prog 8 #[dc A n k d.inn d.pos, .int .i64 q] w fun e w' => e = .returned (.bool true) ∧ Stp w w' := by
  obtain ⟨ts, i, p⟩ := d
  cases hF : fewDB ts
  · exact fills_no I hAw ts i p n hs hn A k w ha q hq0 hq1 hF
  · cases hM : mayD ⟨ts, i, p⟩
    · exact fills_may I hAw ts i p n hs hn A k w ha q hq0 hq1 hF hM
    · by_cases h : i < 0 ∨ (0 ≤ i ∧ (q < 0 ∨ 40 < q))
      · exact fills_out I hAw ts i p n hs hn A k w ha q hq0 hq1 hF hM h
      · obtain ⟨j, pp, t, e1, e2, e3, -, -, e6, -⟩ := mounted hM (by dsimp only; omega)
        exact fills_ok I hAw ts i p n hs hn A k w ha q hq0 hq1 j pp _ e1 e2 t e3 rfl e6 (by omega) hF hM
end Go.Proofs.Ytaknnkcfoafkdaa.Drive
