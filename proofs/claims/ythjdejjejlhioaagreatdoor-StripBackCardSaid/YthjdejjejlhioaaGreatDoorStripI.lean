/-
  What the walks of package strip's laws ask of the code, and what they share: no statement is proved here.
  What the walks of strip's laws share: the statements' awake: no statement is proved here.
  Rows of rows of blocks, one behind the other: append of slices to a row of the call's own, in a region that draws: no statement is proved here.
  A volume of which one byte is another one, in memory of its own: no statement is proved here.
-/
import Derived.Test.YthjdejjejlhioaaGreatDoorStripM
import Derived.Test.YthjdejjejlhioaaGreatDoorVolI
import Derived.Test.YthjdejjejlhioaaGreatDoorParseI
import Derived.Test.YthjdejjejlhioaaGreatDoorVolM
import Derived.Deep.AppendLies
namespace Go.Proofs.YthjdejjejlhioaaGreatDoor.Strip
open Go.Sort Go.RowKit Go.Proofs.YthjdejjejlhioaaGreatDoor.Str Go.Proofs.YthjdejjejlhioaaGreatDoor.Base Go.Proofs.YthjdejjejlhioaaGreatDoor.Node Go.Proofs.YthjdejjejlhioaaGreatDoor.Head Go.Proofs.YthjdejjejlhioaaGreatDoor.Long Go.Proofs.YthjdejjejlhioaaGreatDoor.Entry Go.Proofs.YthjdejjejlhioaaGreatDoor.LabelM Go.Proofs.YthjdejjejlhioaaGreatDoor.ContM Go.Proofs.YthjdejjejlhioaaGreatDoor.Stream Go.Proofs.YthjdejjejlhioaaGreatDoor.VolM Go.Proofs.YthjdejjejlhioaaGreatDoor.Vol Go.Proofs.YthjdejjejlhioaaGreatDoor.StripM
open Go.Proofs.YthjdejjejlhioaaGreatDoor.Tree (oneB mayT fewT)
open Go.Proofs.YthjdejjejlhioaaGreatDoor.Parse (St zeroS phS runS)
set_option linter.unusedVariables false
abbrev LL := List (List UInt8)

/-- Volumes that are small enough. -/
def Fit (vs : List LL) : Prop := ∀ v ∈ vs, v.length ≤ 1000 ∧ ∀ b ∈ v, b.length < 9223372036854775808
/-- The contracts of the calls; what they ask of the world (Go's tables), Tb, lasts. -/
structure StripI (Tb : World → Prop) : Prop where
  keep : ∀ {w w' : World}, Tb w → Stp w w' → Tb w'
  split : ∀ (t : List Nd) (m : Nat), t.length = m → m ≤ 1000 → (∀ n ∈ t, SmallN n) → ∀ (s : Sett) (A : Option Addr) (k : Nat) (v : Value), v = Vol.sv s A k → Vol.SmallS s → ∀ (Q : List LL) (E : Int), splitV t s = (Q, E) → ∀ (z : Nat), Q.length = z →
    ∀ (T : Option Addr) (ct : Nat) (w : World), RdN w T ct t → RdZ w A k s.caps → Tb w →
    Calls Tryz.prog 11 #[.slice T m ct, v] w fun e w' => ∃ B d, e = .returned (.tuple #[.slice B z d, .int .i64 E]) ∧ RdV w' B d Q ∧ Stp w w'
  begin : ∀ (t : List Nd) (m : Nat), t.length = m → m ≤ 1000 → (∀ n ∈ t, SmallN n) → ∀ (s : Sett) (A : Option Addr) (k : Nat) (v : Value), v = Vol.sv s A k → Vol.SmallS s → ∀ (pos n : Int), -9223372036854775808 ≤ pos → pos < 9223372036854775808 → -9223372036854775808 ≤ n → n < 9223372036854775808 →
    ∀ (V : LL), beginV t s pos n = V → ∀ (z : Nat), V.length = z → ∀ (b : Bool), beginB t s pos n = b → ∀ (T : Option Addr) (ct : Nat) (w : World), RdN w T ct t → RdZ w A k s.caps → Tb w →
    Calls Tryz.prog 20 #[.slice T m ct, v, .int .i64 pos, .int .i64 n] w fun e w' => ∃ B d, e = .returned (.tuple #[.slice B z d, .bool b]) ∧ RdL w' B d V ∧ Stp w w'
  one : ∀ (s : St) (v : Value), v = Parse.sv s → Parse.SmallS s → ∀ (name : List UInt8) (y : Nat), name.length = y → y ≤ 9223372036854775807 → ∀ (n : Int), -9223372036854775808 ≤ n → n < 9223372036854775808 → ∀ (x : LL) (z : Nat), x.length = z → z ≤ 1000 → (∀ b ∈ x, b.length < 9223372036854775808) →
    ∀ (k e0 : Int), oneV s name n x = (k, e0) → ∀ (A : Option Addr) (c : Nat) (w : World), RdL w A c x → Tb w →
    Calls Tryz.prog 19 #[v, .string ⟨name.toArray⟩, .int .i64 n, .slice A z c] w fun e w' => e = .returned (.tuple #[.int .i64 k, .int .i64 e0]) ∧ Stp w w'
  strip : ∀ (name : List UInt8) (y : Nat), name.length = y → y ≤ 9223372036854775807 → ∀ (vs more ws : List LL), vs ++ more = ws → ∀ (z : Nat), ws.length = z → z ≤ 1000 → Fit vs → (more = [] ∨ (stripV name vs).2.2 ≠ 7) → ∀ (S : St) (X : LL) (E : Int), stripV name vs = (S, X, E) → ∀ (x : Nat), X.length = x →
    ∀ (A : Option Addr) (c : Nat) (w : World), RdV w A c ws → Tb w →
    Calls Tryz.prog 13 #[.string ⟨name.toArray⟩, .slice A z c] w fun e w' => ∃ B d, e = .returned (.tuple #[.slice B x d, .int .i64 E]) ∧ RdL w' B d X ∧ Stp w w'
  left : ∀ (name : List UInt8) (y : Nat), name.length = y → y ≤ 9223372036854775807 → ∀ (vs more ws : List LL), vs ++ more = ws → ∀ (z : Nat), ws.length = z → z ≤ 1000 → Fit vs → (more = [] ∨ (stripV name vs).2.2 ≠ 7) → ∀ (S : St) (X : LL) (E : Int), stripV name vs = (S, X, E) →
    ∀ (A : Option Addr) (c : Nat) (w : World), RdV w A c ws → Tb w →
    Calls Tryz.prog 17 #[.string ⟨name.toArray⟩, .slice A z c] w fun e w' => e = .returned (Parse.sv S) ∧ Stp w w'

/-! ### a tree's volumes are small -/
theorem all_few {t : List Nd} (h1 : mayT t = true) : (allS t).length ≤ 402 := by
  have a1 := all_length h1
  have a2 := start_le t t.length
  have a3 := blocks_le t
  have a4 := may_len h1
  omega
theorem vol_few (t : List Nd) (s : Sett) (hs : mayS s = true) (pos n room : Nat) : (volV t s pos n room).length ≤ (allS t).length + 24 := by
  obtain ⟨-, h1, h2, -, -⟩ := mayS_iff.1 hs
  have hb := begin_le t s pos ((n : Int) + 1)
  have hl : (beginL t s pos ((n : Int) + 1) ++ ((allS t).drop pos).take (room - (beginL t s pos ((n : Int) + 1)).length)).length ≤ (allS t).length + 4 := by
    rw [List.length_append, List.length_take, List.length_drop]
    omega
  rw [volV]
  split
  · omega
  · rw [List.length_append, List.length_replicate]
    have := Nat.mod_lt (s.b.toNat - (beginL t s pos ((n : Int) + 1) ++ ((allS t).drop pos).take (room - (beginL t s pos ((n : Int) + 1)).length)).length % s.b.toNat) (show 0 < s.b.toNat by omega)
    omega
theorem chain_fit {t : List Nd} {s : Sett} (ht : mayT t = true) (hs : mayS s = true) {pos n : Nat} {vs : List LL} {e : Int} (h : Chain t s pos n vs e) : ∀ v ∈ vs, v.length ≤ 430 := by
  induction h with
  | done _ => simp
  | media _ _ => simp
  | small _ _ _ => simp
  | @more pos n c vs e _ _ _ _ ih =>
    intro v hv
    rcases List.mem_cons.1 hv with rfl | hv
    · have := vol_few t s hs pos n (s.b * c).toNat
      have := all_few ht
      omega
    · exact ih v hv
theorem split_len {t : List Nd} {s : Sett} {Q : List LL} {E : Int} (h : splitV t s = (Q, E)) : ∀ v ∈ Q, v.length ≤ 430 ∧ ∀ b ∈ v, b.length = 512 := by
  intro v hv
  by_cases hm : (mayT t && mayS s) = true
  · rw [Bool.and_eq_true] at hm
    have hc := chain_split hm.1 hm.2
    rw [h] at hc
    obtain ⟨i, hi⟩ := List.mem_iff_getElem?.1 hv
    obtain ⟨c, -, -, -, -, -, h6⟩ := chain_room hm.2 hc i v hi
    exact ⟨chain_fit hm.1 hm.2 hc v hv, BlockM.mayV_iff.1 h6⟩
  · rw [split_no (by simpa using hm)] at h
    cases h
    cases hv
theorem split_fit {t : List Nd} {s : Sett} {Q : List LL} {E : Int} (h : splitV t s = (Q, E)) : Fit Q := fun v hv => by
  obtain ⟨h1, h2⟩ := split_len h v hv
  exact ⟨by omega, fun b hb => by rw [h2 b hb]; omega⟩
theorem Fit.take {vs : List LL} (h : Fit vs) (k : Nat) : Fit (vs.take k) := fun v hv => h v (List.mem_of_mem_take hv)

/-! ### the chapter's example -/
theorem stA_zero (t : List Nd) : stA t 0 = zeroS := by
  rw [stA, List.take_zero, Parse.run_nil]
theorem ex_strip : ∃ V : LL, splitV [] exS = ([V], 0) ∧ V.length = 4 ∧ stripV [120] [V] = (phS 5, [nought, nought], 0) ∧ stripV [121] [V] = (zeroS, [], 11) ∧ oneV zeroS [120] 1 V = (1, 0) := by
  obtain ⟨V, hV, h4⟩ := ex_split
  have ht : mayT [] = true := rfl
  obtain ⟨hp, h12, rest, hv, -⟩ := sinv_step ht exS_may (sinv_zero ht exS_may hV) (v := V) rfl
  have hb := ex_begin
  refine ⟨V, hV, h4, ?_, ?_, ?_⟩
  · have := strip_back ht exS_may hV []
    rw [List.append_nil, all_nil] at this
    exact this
  · have h1 : oneV zeroS [121] 1 V = (0, 11) := by
      have := one_other ht exS_may (pos := 0) (n := 0) hp h12 [121] 1 (by rintro ⟨h, -⟩; revert h; decide) (goesOn [] 0 ++ rest)
      rw [stA_zero] at this
      rw [hv]
      exact this
    rw [stripV, stripG, if_pos (by show (oneV zeroS [121] 1 V).2 ≠ 0; rw [h1]; decide)]
    show (zeroS, ([] : LL), (oneV zeroS [121] 1 V).2) = _
    rw [h1]
  · have := one_vol ht exS_may (pos := 0) (n := 0) hp h12 rest
    rw [stA_zero, ← hv] at this
    have e : (((0 : Nat) : Int) + 1) = 1 := rfl
    rw [e, hb] at this
    exact this
end Go.Proofs.YthjdejjejlhioaaGreatDoor.Strip

namespace Go.Proofs.YthjdejjejlhioaaGreatDoor.Strip
open Go.Sort Go.RowKit Go.Proofs.YthjdejjejlhioaaGreatDoor.Str Go.Proofs.YthjdejjejlhioaaGreatDoor.Base Go.Proofs.YthjdejjejlhioaaGreatDoor.Node Go.Proofs.YthjdejjejlhioaaGreatDoor.Head Go.Proofs.YthjdejjejlhioaaGreatDoor.Long Go.Proofs.YthjdejjejlhioaaGreatDoor.Entry Go.Proofs.YthjdejjejlhioaaGreatDoor.LabelM Go.Proofs.YthjdejjejlhioaaGreatDoor.ContM Go.Proofs.YthjdejjejlhioaaGreatDoor.Stream Go.Proofs.YthjdejjejlhioaaGreatDoor.VolM Go.Proofs.YthjdejjejlhioaaGreatDoor.Vol Go.Proofs.YthjdejjejlhioaaGreatDoor.StripM
open Go.Proofs.YthjdejjejlhioaaGreatDoor.Tree (oneB mayT fewT)
open Go.Proofs.YthjdejjejlhioaaGreatDoor.Parse (St zeroS phS runS)
set_option linter.unusedVariables false

theorem field_phase (Z : St) (w : World) : (Instr.field 46 (Parse.sv Z) 0).run Tryz.prog w = .ok (.int .i64 Z.phase) w := by kernel_rfl
theorem zero_small : Parse.SmallS zeroS := Parse.may_small Parse.zeroS_may
set_option maxRecDepth 100000 in
set_option maxHeartbeats 4000000 in
theorem awake_s {Tb : World → Prop} (I : StripI Tb) (w : World) (htab : Tb w) : Calls Tryz.prog 8 #[] w fun e w' => e = .returned (.bool true) ∧ Stp w w' := by
  obtain ⟨V, hV, hV4, hS1, hS2, hO⟩ := ex_strip
  have hfit := split_fit hV
  obtain ⟨Z, hZ⟩ : ∃ Z, phS 5 = Z := ⟨_, rfl⟩
  have g5 : (Z.phase == 5) = true := by rw [← hZ]; rfl
  rw [hZ] at hS1
  have hb3 : ∀ b ∈ V, b.length < 9223372036854775808 := (hfit V (by simp)).2
  have hz := lit_z w 2 3
  have hst := Stp.alloc (Stp.refl w) (.cells #[.int .i64 2] 3)
  rw [show ([2] : List Int) = exS.caps from rfl] at hz
  have hsv : Value.agg #[.string ⟨#[120]⟩, .int .i64 2, .slice (some ⟨w.heap.size, 0, none⟩) 1 1] = Vol.sv exS (some ⟨w.heap.size, 0, none⟩) 1 := rfl
  have hfd := field_phase Z
  have HI := Lib.hid I
  have HT := Lib.hid htab
  have HV4 := Lib.hid hV4
  have HA : Hid ([V] ++ ([] : List LL) = [V]) := Lib.hid (List.append_nil _)
  have H1 := Lib.hid (show ([V] : List LL).length = 1 from rfl)
  have H0t := Lib.hid (show ([] : List Nd).length = 0 from rfl)
  have Hn0 : Hid (∀ n ∈ ([] : List Nd), SmallN n) := Lib.hid (fun n hn => by cases hn)
  have Hx1 : Hid (([120] : List UInt8).length = 1) := Lib.hid rfl
  have Hy1 : Hid (([121] : List UInt8).length = 1) := Lib.hid rfl
  have HQ := Lib.hid hV
  have HS1 := Lib.hid hS1
  have HS2 := Lib.hid hS2
  have HO := Lib.hid hO
  have HF := Lib.hid hfit
  have Hb3 := Lib.hid hb3
  have HX2 : Hid (([nought, nought] : LL).length = 2) := Lib.hid rfl
  have HX0 : Hid (([] : LL).length = 0) := Lib.hid rfl
  have HSm := Lib.hid exS_small
  have Hz := Lib.hid hz
  have h0 := Lib.hid hst
  have Hsv := Lib.hid hsv
  clear hV hV4 hS1 hS2 hO htab I hfit hb3 hz hst hZ hsv
  go_enter Tryz.func8, Tryz.ntmps8
  go_upto_region 2 with (go_at_call 11; refine (HI.out.split [] 0 H0t.out (by omega) Hn0.out exS _ 1 _ Hsv.out HSm.out [V] 0 HQ.out 1 H1.out none 0 _ (RdN.nil _) Hz.out (HI.out.keep HT.out h0.out)).mono ?_; rintro e w1 ⟨B1, d1, rfl, hr, hs⟩; have HR := Lib.hid hr; replace h0 := Lib.hid (Stp.trans h0.out hs); clear hr hs)
  obtain ⟨bv, ov, Bv, dv, rfl, hcv, hLv⟩ := HR.out.at_ (j := 0) (vs := V) rfl
  rw [HV4.out, Nat.add_zero] at hcv
  have HLv := Lib.hid hLv
  have HC := Lib.hid hcv
  clear hLv hcv
  go_upto_region 5 with ((go_at_call 13; (refine (HI.out.strip [120] 1 rfl (by omega) [V] [] [V] HA.out 1 H1.out (by omega) HF.out (.inl rfl) Z [nought, nought] 0 HS1.out 2 HX2.out _ _ _ HR.out (HI.out.keep HT.out h0.out)).mono ?_); rintro e w2 ⟨B2, d2, rfl, -, hs⟩; replace HR := Lib.hid (HR.out.keep hs); replace h0 := Lib.hid (Stp.trans h0.out hs); replace HLv := Lib.hid (HLv.out.keep hs); replace HC := Lib.hid ((hs.cell (p := ⟨bv, ov, none⟩) (World.block_lt_of_cell? _ _ HC.out)).trans HC.out); clear hs))
  go_upto_region 6 with ((go_at_call 13; (refine (HI.out.strip [121] 1 rfl (by omega) [V] [] [V] HA.out 1 H1.out (by omega) HF.out (.inl rfl) zeroS [] 11 HS2.out 0 HX0.out _ _ _ HR.out (HI.out.keep HT.out h0.out)).mono ?_); rintro e w3 ⟨B3, d3, rfl, -, hs⟩; replace HR := Lib.hid (HR.out.keep hs); replace h0 := Lib.hid (Stp.trans h0.out hs); replace HLv := Lib.hid (HLv.out.keep hs); replace HC := Lib.hid ((hs.cell (p := ⟨bv, ov, none⟩) (World.block_lt_of_cell? _ _ HC.out)).trans HC.out); clear hs))
  have hcv := HC.out
  go_wp2_with (first
    | (go_at_call 19; (refine (HI.out.one zeroS _ Parse.zero_sv zero_small [120] 1 rfl (by omega) 1 (by omega) (by omega) V 4 HV4.out (by omega) Hb3.out 1 0 HO.out _ _ _ HLv.out (HI.out.keep HT.out h0.out)).mono ?_); rintro e w4 ⟨rfl, hs⟩; replace HR := Lib.hid (HR.out.keep hs); replace h0 := Lib.hid (Stp.trans h0.out hs); clear hs hcv)
    | (go_at_call 17; (refine (HI.out.left [120] 1 rfl (by omega) [V] [] [V] HA.out 1 H1.out (by omega) HF.out (.inl rfl) Z [nought, nought] 0 HS1.out _ _ _ HR.out (HI.out.keep HT.out h0.out)).mono ?_); rintro e w5 ⟨rfl, hs⟩; replace h0 := Lib.hid (Stp.trans h0.out hs); clear hs))
  go_ret
  exact ⟨rfl, h0.out⟩
end Go.Proofs.YthjdejjejlhioaaGreatDoor.Strip

namespace Go.Proofs.YthjdejjejlhioaaGreatDoor.Base
open Go.RowKit
set_option linter.unusedVariables false
section
variable {P : Program} {ops : Array Oper} {o : Oper} {a : Act} {K : Act → World → Prop} {Q : Exit → Act → World → Prop} {E : Prop}
theorem step_app_sl (w : World) (hgd : o.guard = none) (s x : Operand) (t : TypeId) (ho : o.op = .call { callee := .builtin .append, args := #[s, x], argTypes := #[t, t] })
    (lo : Nat) (e : TypeId) (ht : P.underlying t = some (.slice e)) (hi : (P.info? e).map (fun i => (i.zero, i.size, i.bytes)) = some (some (.slice none 0 0), 1, 24))
    (v : Value) (us : List Value) (hs : a.eval s = v) (h : Own w lo e v us) {B : Nat} {u : Value} {ns : List Value} (hx : a.eval x = u) (hm : Rd w B u ns) (h1 : ∀ x ∈ ns, x.oneCell' = true) (hl : us.length + ns.length ≤ 1000) (hlo : lo ≤ w.heap.size)
    (hK : ∀ v' w', Own w' lo e v' (us ++ ns) → w.grownBy w' v.ownBlock → K (a.put o.dst v') w') :
    if Region.wanted o (yielded ops a.tmps) = true then Oper.wp P o a w K Q else E := by
  obtain ⟨i, hi', hz, hsz, hby⟩ := info_parts hi
  obtain ⟨v', w', hr', h2, h3, -⟩ := run_append_rd (P := P) w lo t o.type e i _ 24 ht hi' hz hsz hby rfl v us h B u ns hm h1 (by unfold maxLen; omega) (by omega) hlo
  rw [if_pos (by simp [Region.wanted, hgd])]
  unfold Oper.wp execOp
  simp only [ho, resolve, invoke, builtin, Sem.run_bind, Sem.run_pure, Result.andThen_ok, List.map_toArray, List.map_cons, List.map_nil, hs, hx, hr']
  exact hK v' w' h2 h3
end
/-- The slices of a row of rows. -/
theorem RdV.vals {w : World} {A : Option Addr} {c : Nat} {P : List (List (List UInt8))} (h : RdV w A c P) : ∃ us : List Value, us.length = P.length ∧ RdA w A c us ∧ (∀ u ∈ us, u.oneCell' = true) ∧ ∀ (j : Nat) (x : List (List UInt8)), P[j]? = some x → ∃ B d, us[j]? = some (.slice B x.length d) ∧ RdL w B d x := by
  obtain ⟨us, h1, h2, h3⟩ := h
  refine ⟨us, h1, h2, fun u hu => ?_, h3⟩
  obtain ⟨j, hj⟩ := List.getElem?_of_mem hu
  have hjl : j < P.length := by rw [← h1]; exact (List.getElem?_eq_some_iff.1 hj).1
  obtain ⟨B, d, e, -⟩ := h3 j _ (List.getElem?_eq_getElem hjl)
  rw [hj] at e
  cases e
  exact isSl_one ⟨_, _, _, rfl⟩
/-- Both, one behind the other, in a row of the call's own. -/
theorem vals_rdV {w0 w : World} {lo : Nat} {e : TypeId} {v : Value} {uP uQ : List Value} {P Q : List (List (List UInt8))} (ho : Own w lo e v (uP ++ uQ)) (hs : Stp w0 w) (hP : uP.length = P.length) (hQ : uQ.length = Q.length)
    (eP : ∀ (j : Nat) (x : List (List UInt8)), P[j]? = some x → ∃ B d, uP[j]? = some (.slice B x.length d) ∧ RdL w0 B d x) (eQ : ∀ (j : Nat) (x : List (List UInt8)), Q[j]? = some x → ∃ B d, uQ[j]? = some (.slice B x.length d) ∧ RdL w0 B d x) {n : Nat} (hn : (P ++ Q).length = n) :
    ∃ A c, v = .slice A n c ∧ RdV w A c (P ++ Q) := by
  subst hn
  obtain ⟨A, c, rfl, hA⟩ := RdA.of ho.rd
  refine ⟨A, c, by rw [List.length_append, List.length_append, hP, hQ], uP ++ uQ, by rw [List.length_append, List.length_append, hP, hQ], hA, fun j x hj => ?_⟩
  by_cases h : j < P.length
  · rw [List.getElem?_append_left h] at hj
    obtain ⟨B, d, e1, e2⟩ := eP j x hj
    exact ⟨B, d, by rw [List.getElem?_append_left (by omega)]; exact e1, e2.keep hs⟩
  · rw [List.getElem?_append_right (by omega)] at hj
    obtain ⟨B, d, e1, e2⟩ := eQ _ x hj
    exact ⟨B, d, by rw [List.getElem?_append_right (by omega), hP]; exact e1, e2.keep hs⟩
end Go.Proofs.YthjdejjejlhioaaGreatDoor.Base

namespace Go.Proofs.YthjdejjejlhioaaGreatDoor.Strip
open Go.Sort Go.RowKit Go.Proofs.YthjdejjejlhioaaGreatDoor.Str Go.Proofs.YthjdejjejlhioaaGreatDoor.Base Go.Proofs.YthjdejjejlhioaaGreatDoor.Node Go.Proofs.YthjdejjejlhioaaGreatDoor.VolM
set_option linter.unusedVariables false
end Go.Proofs.YthjdejjejlhioaaGreatDoor.Strip

