/-
  The walk of the statement ReadSafe over package read's contracts: the statement itself is proved in a text of its own.
  The statement ReadSafe: whatever blocks there are, each node that is read may be alone, whole, or in part: for any blocks.
-/
import Derived.Test.YtieefnnfnimflaaReadI
import Derived.Test.YtieefnnfnimflaaTreeC4
import Derived.Test.YtieefnnfnimflaaTreeOne
import Derived.Test.YtieefnnfnimflaaParseSafeW
import Derived.Test.YtieefnnfnimflaaRows
import Derived.Test.YtieefnnfnimflaaBase
import Derived.Test.YtieefnnfnimflaaReadK
import Derived.Test.YtieefnnfnimflaaParseC
namespace Go.Proofs.Ytieefnnfnimflaa.Read
open Go.RowKit Go.Proofs.Ytieefnnfnimflaa.Str Go.Proofs.Ytieefnnfnimflaa.Base Go.Proofs.Ytieefnnfnimflaa.Node
open Go.Proofs.Ytieefnnfnimflaa.Tree (oneB)

set_option maxRecDepth 100000 in
set_option maxHeartbeats 4000000 in
theorem safe_s (I : ReadI) (l : List L) (n : Nat) (hn : l.length = n) (A : Option Addr) (c : Nat) (w : World) (ha : RdL w A c l) (hl : n < 9223372036854775808) (hls : ∀ b ∈ l, b.length < 9223372036854775808) :
    Calls Try.prog 4 #[.slice A n c] w fun e w' => e = .returned (.bool true) ∧ Stp w w' := by
  have h0 := Stp.refl w
  have Hr := Lib.hid ha
  have HI := Lib.hid I
  have Hls := Lib.hid hls
  have Hn := Lib.hid hn
  obtain ⟨G, hG⟩ : ∃ x, Block.fewV l = x := ⟨_, rfl⟩
  have HG := Lib.hid hG
  have hfw : G = true → n ≤ 60 := fun h => by rw [← hn]; exact (Block.fewV_iff.1 (hG.trans h)).1
  have hones := part_ones l
  have hrp := read_part l
  have hpl := part_len l
  have hrl := read_len l
  have hus := used_le l
  obtain ⟨ts, e, hr⟩ : ∃ ts e, readV l = (ts, e) := ⟨_, _, rfl⟩
  obtain ⟨ps, f, hp⟩ : ∃ ps f, partV l = (ps, f) := ⟨_, _, rfl⟩
  obtain ⟨u, hu⟩ : ∃ u, usedV l = u := ⟨_, rfl⟩
  rw [hr, hp] at hrp
  rw [hp] at hones hpl
  rw [hr] at hrl
  rw [hu] at hus
  rw [hn] at hpl hrl hus
  obtain ⟨mt, hmt⟩ : ∃ x, ts.length = x := ⟨_, rfl⟩
  obtain ⟨mp, hmp⟩ : ∃ x, ps.length = x := ⟨_, rfl⟩
  obtain ⟨S, hS⟩ : ∃ x, (ts == ps) = x := ⟨_, rfl⟩
  simp only at hones hrp hpl hrl
  rw [hmt] at hrl
  rw [hmp] at hpl
  have cases3 : (e = 0 ∧ f = 0 ∧ S = true) ∨ (e ≠ 0 ∧ mt = 0 ∧ f = 0) ∨ (e ≠ 0 ∧ mt = 0 ∧ f ≠ 0 ∧ e = f) := by
    obtain ⟨h1, h2, h3⟩ := hrp
    by_cases he : e = 0
    · obtain ⟨g1, g2⟩ := h1 he
      exact .inl ⟨he, g1, by rw [← hS, g2]; exact beq_self_eq_true _⟩
    · have g := h2 he
      have gm : mt = 0 := by rw [← hmt, g]; rfl
      by_cases hf : f = 0
      · exact .inr (.inl ⟨he, gm, hf⟩)
      · exact .inr (.inr ⟨he, gm, hf, h3.resolve_left hf⟩)
  have HR := Lib.hid hr
  have HP := Lib.hid hp
  have HU := Lib.hid hu
  have HS := Lib.hid hS
  have Hmt := Lib.hid hmt
  have Hmp := Lib.hid hmp
  have Hones := Lib.hid hones
  clear I ha hG hls hn hones hrp hr hp hu hS hmt hmp
  cases G
  · clear cases3 hfw hpl hrl hus
    go_enter Try.func4, Try.ntmps4
    go_wp2_with (first
      | (go_at_call 14; (with_reducible refine (awake_s HI.out _).mono ?_); rintro e w1 ⟨rfl, hs⟩; replace Hr := Lib.hid (Hr.out.keep hs); replace h0 := Stp.trans h0 hs; clear hs)
      | (go_at_call 15; (with_reducible refine (Parse.bfew_n l _ Hn.out _ _ _ Hr.out hl Hls.out).mono ?_); rintro e w3 ⟨rfl, hs⟩; rw [HG.out]; replace h0 := Stp.trans h0 hs; clear hs))
    go_ret
    exact ⟨rfl, h0⟩
  have h60 := hfw rfl
  have hmt3 : mt ≤ 120 := by omega
  have hmp3 : mp ≤ 120 := by omega
  clear hfw
  go_enter Try.func4, Try.ntmps4
  go_wp2_with (first
    | (go_at_call 14; (with_reducible refine (awake_s HI.out _).mono ?_); rintro e w1 ⟨rfl, hs⟩; replace Hr := Lib.hid (Hr.out.keep hs); replace h0 := Stp.trans h0 hs; clear hs)
    | (go_at_call 15; (with_reducible refine (Parse.bfew_n l _ Hn.out _ _ _ Hr.out hl Hls.out).mono ?_); rintro e w3 ⟨rfl, hs⟩; rw [HG.out]; replace Hr := Lib.hid (Hr.out.keep hs); replace h0 := Stp.trans h0 hs; clear hs)
    | (go_at_call 16; (with_reducible refine (HI.out.read l n Hn.out (by omega) Hls.out ts e mt HR.out Hmt.out _ _ _ Hr.out).mono ?_); rintro e4 w4 ⟨B4, d4, rfl, hr4, hs⟩; have HT := Lib.hid hr4; replace Hr := Lib.hid (Hr.out.keep hs); replace h0 := Stp.trans h0 hs; clear hs hr4)
    | (go_at_call 17; (with_reducible refine (HI.out.part l n Hn.out (by omega) Hls.out ps f mp HP.out Hmp.out _ _ _ Hr.out).mono ?_); rintro e5 w5 ⟨B5, d5, rfl, hr5, hs⟩; have HQ := Lib.hid hr5; replace HT := Lib.hid (HT.out.keep hs); replace Hr := Lib.hid (Hr.out.keep hs); replace h0 := Stp.trans h0 hs; clear hs hr5))
  have H0 := Lib.hid h0
  clear h0
  go_loopw [9] (fun i wr => ∃ k : Nat, k ≤ mp ∧ i = .int .i64 (k : Int) ∧ Hid (Stp w5 wr)) (fun i _ => mp - (intOf i).toNat)
  case atStart => exact ⟨0, by omega, rfl, Lib.hid (Stp.refl w5)⟩
  case round =>
    obtain ⟨k, hk, rfl, H2⟩ := hrel
    by_cases hlt : k < mp
    · obtain ⟨x, hx⟩ : ∃ x, ps[k]? = some x := ⟨_, List.getElem?_eq_getElem (by rw [Hmp.out]; exact hlt)⟩
      obtain ⟨b, o, rfl, -, q0, q1, q2, q3, q4, q5, q6, q7⟩ := (HQ.out.keep H2.out).cells hx
      have hc5 := HQ.out.1
      rw [Hmp.out] at hc5
      have hone := Hones.out x (List.mem_of_getElem? hx)
      have Hone := Lib.hid hone
      have Hsm := Lib.hid (Parse.one_small hone)
      clear hx hone cases3
      go_wp2_with (go_at_call 18; (with_reducible refine (Tree.tone_s x Hsm.out _).mono ?_); rintro e w6 ⟨rfl, hs⟩; rw [Hone.out]; have H3 := Lib.hid (Stp.trans H2.out hs); clear hs)
      go_roundw
      case rel => exact ⟨k + 1, by omega, by go_num, H3⟩
      case measure => simp [intOf]; omega
    · obtain rfl : k = mp := by omega
      have hT := Lib.hid (HT.out.keep H2.out)
      have hQ := Lib.hid (HQ.out.keep H2.out)
      have hR := Lib.hid (Hr.out.keep H2.out)
      have hu2 : (u : Int) ≤ (n : Int) := by omega
      have hk9 : k < 9223372036854775808 := by omega
      rcases cases3 with ⟨h1, h2, h3⟩ | ⟨h1, h2, h3⟩ | ⟨h1, h2, h3, h4⟩
      · have g1 : (e == 0) = true := beq_iff_eq.2 h1
        have g2 : (f == 0) = true := beq_iff_eq.2 h2
        subst h3
        clear h1 h2 hlt hk
        go_wp2_with (first
          | (go_at_call 19; (with_reducible refine (rsame_n ts ps mt k Hmt.out Hmp.out _ _ _ _ _ hT.out hQ.out hk9 true HS.out).mono ?_); rintro e6 w6 ⟨rfl, hs⟩; replace H2 := Lib.hid (Stp.trans H2.out hs); replace hR := Lib.hid (hR.out.keep hs); clear hs)
          | (go_at_call 20; (with_reducible refine (HI.out.used l n Hn.out (by omega) Hls.out u HU.out _ _ _ hR.out).mono ?_); rintro e7 w7 ⟨rfl, hs⟩; replace H2 := Lib.hid (Stp.trans H2.out hs); clear hs))
        all_goals go_ret
        all_goals exact ⟨rfl, Stp.trans H0.out H2.out⟩
      · have g1 : (e == 0) = false := beq_eq_false_iff_ne.2 h1
        have g1' : (e != 0) = true := bne_iff_ne.2 h1
        have g2 : (f == 0) = true := beq_iff_eq.2 h3
        subst h2
        clear h1 h3 hlt hk
        cases S
        all_goals
          go_wp2_with (first
            | (go_at_call 19; (with_reducible refine (rsame_n ts ps 0 k Hmt.out Hmp.out _ _ _ _ _ hT.out hQ.out hk9 _ HS.out).mono ?_); rintro e6 w6 ⟨rfl, hs⟩; replace H2 := Lib.hid (Stp.trans H2.out hs); replace hR := Lib.hid (hR.out.keep hs); clear hs)
            | (go_at_call 20; (with_reducible refine (HI.out.used l n Hn.out (by omega) Hls.out u HU.out _ _ _ hR.out).mono ?_); rintro e7 w7 ⟨rfl, hs⟩; replace H2 := Lib.hid (Stp.trans H2.out hs); clear hs))
        all_goals go_ret
        all_goals exact ⟨rfl, Stp.trans H0.out H2.out⟩
      · have g1 : (e == 0) = false := beq_eq_false_iff_ne.2 h1
        have g1' : (e != 0) = true := bne_iff_ne.2 h1
        have g2 : (f == 0) = false := beq_eq_false_iff_ne.2 h3
        have g3 : (e == f) = true := beq_iff_eq.2 h4
        subst h2
        clear h1 h3 h4 hlt hk
        cases S
        all_goals
          go_wp2_with (first
            | (go_at_call 19; (with_reducible refine (rsame_n ts ps 0 k Hmt.out Hmp.out _ _ _ _ _ hT.out hQ.out hk9 _ HS.out).mono ?_); rintro e6 w6 ⟨rfl, hs⟩; replace H2 := Lib.hid (Stp.trans H2.out hs); replace hR := Lib.hid (hR.out.keep hs); clear hs)
            | (go_at_call 20; (with_reducible refine (HI.out.used l n Hn.out (by omega) Hls.out u HU.out _ _ _ hR.out).mono ?_); rintro e7 w7 ⟨rfl, hs⟩; replace H2 := Lib.hid (Stp.trans H2.out hs); clear hs))
        all_goals go_ret
        all_goals exact ⟨rfl, Stp.trans H0.out H2.out⟩
end Go.Proofs.Ytieefnnfnimflaa.Read

namespace Go.Proofs.Ytieefnnfnimflaa.readSafe
open Go.ChangeShapes Go.WideShapes Go.ChangeAt Go.RowKit Go.Proofs.Ytieefnnfnimflaa.Base Go.Proofs.Ytieefnnfnimflaa.Frame
open Go.ChangeMaps (open_string shut_string)
set_option linter.unusedVariables false

theorem own : ownKnob Try.prog.godebug = none := by kernel_rfl
theorem laidOut : laidOutB Try.prog = true := by kernel_rfl

set_option maxRecDepth 100000 in
theorem lifted (os : Os) (started : os.Started) (H : Type) (enc : TypeId × Value → H) :
    ReturnsInHanded {} Try.checked os 4 .any (Rows.readSafeSpec.pre6 enc Try.prog Try.f4 Rows.readSafeRow.domain false) (Rows.readSafeSpec.post enc Try.prog Try.f4 false true false false) := by
  refine returnsInHanded_of_change (C := Try.checked) own started (by kernel_rfl) Try.func4
    (ChangeSpec.witness6 (enc := enc) (C := Try.checked) false ⟨#[], #[.slice none 0 0], []⟩ 8 (by kernel_rfl) (by kernel_rfl) (by kernel_rfl) (by kernel_rfl)) ?_
  intro W base args ds gs before hval0 hW hcnd _
  have hval : ∀ (j : Nat) t v, Try.f4.params[j]? = some t → args[j]? = some v → Value.okWide Try.prog W .any base t v := hval0
  have hW' := hW
  obtain ⟨p, q, hA0, hV, rfl, hfz, hnd⟩ := hW
  have hA : DataW.TrodAll enc Try.prog W 0 (fun _ => true) true Try.f4.params.toList args.toList ds p := hA0
  rw [Try.params4] at hA hval
  obtain ⟨v0, vs0, d0, ds0, p0, q0, hargs, rfl, rfl, h0, r0x⟩ := trodAll_cons hA
  obtain ⟨rfl, rfl, rfl⟩ := trodAll_nil r0x
  obtain rfl : args = #[v0] := by cases args; simp_all
  obtain ⟨rfl, rfl⟩ := trodVars_none hV
  obtain ⟨A0, len0, cap0, rfl⟩ := okWide_slice Try.underlying27 (hval 0 27 v0 rfl rfl)
  have k0 := h0
  have lt0 : ∀ x ∈ p0, x.block < W.heap.size := by obtain ⟨m, hm⟩ := k0; exact DataW.trod_lt m _ _ _ hm
  obtain ⟨a0, rfl, r0, n0, m0⟩ : ∃ ls : List (List UInt8), ls.length = len0 ∧ RdL W A0 cap0 ls ∧ (∀ l ∈ ls, l.length < 9223372036854775808) ∧ len0 < 9223372036854775808 := by
    obtain ⟨fuel, hf⟩ := h0
    refine rdL_of_rows ?_
    rcases Deep.open_int_rows Try.underlying27 Try.underlying24 Try.underlying5 (by kernel_rfl) (by kernel_rfl) hf with ⟨hcs, _⟩ | ⟨x, l, c, AA, LL, CC, ZZ, hcs, _, hl, hm, _, hr⟩
    · simp [Value.cells] at hcs
      exact .inl hcs
    · simp [Value.cells] at hcs
      obtain ⟨rfl, rfl, rfl⟩ := hcs
      exact .inr ⟨x, AA, LL, CC, ZZ, rfl, hl, hm, fun r hlt => by obtain ⟨q1, q2, q3, q4, q5, q6, q7⟩ := hr r hlt; exact ⟨q1, q2, q3, q4, q5, q6, fun a' e => (q7 a' e).2⟩⟩
  clear hA0 hval0
  refine (Read.safe_s (Read.readI Parse.parseI) a0 _ rfl _ _ W r0 m0 n0).mono fun e W' ⟨he, bel⟩ => ?_
  subst he
  exact ⟨_, rfl, _, _, _, [], _, [], hW', trodAll_mk1 (shut_bool Try.underlying4 _), (trodAll_cons_mk (Below.trod laidOut (by kernel_rfl) (of_decide_eq_true (by kernel_rfl)) k0 bel lt0) trodAll_mk0), rfl, bel.frame _, fun h => by cases h⟩

theorem over : Rows.readSafeRow.holds Try.pinned (OpenSpec.ofChange Rows.readSafeSpec) :=
  OpenClaim.holds_of_wide 4 Try.f4 rfl rfl rfl rfl rfl rfl rfl ⟨rfl, rfl, rfl, rfl, rfl⟩ rfl rfl rfl rfl rfl (by kernel_rfl) Try.func4 (by kernel_rfl)
    (of_decide_eq_true (by kernel_rfl)) (by unfold Func.isWrapper; first | (rw [if_pos (by decide +kernel)]; kernel_rfl) | (rw [if_neg (by decide +kernel)]; exact ⟨rfl, rfl⟩))
    (fun os started H enc _ => lifted os started H enc)

/-- The statement. -/
theorem proved : Rows.ReadSafeSaid := over
#print axioms proved
end Go.Proofs.Ytieefnnfnimflaa.readSafe

