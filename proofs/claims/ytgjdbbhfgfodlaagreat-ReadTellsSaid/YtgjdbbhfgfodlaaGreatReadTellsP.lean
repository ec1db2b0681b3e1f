/-
  Proved: for every list of events and every list of slices of bytes the law ReadTells of reelkeeperlaw10 returns true and leaves its arguments as they were; no condition.
-/
import Derived.Test.YtgjdbbhfgfodlaaGreatRows
import Derived.Test.YtgjdbbhfgfodlaaGreatBase
import Derived.Test.YtgjdbbhfgfodlaaGreatEvsF
import Derived.Test.YtgjdbbhfgfodlaaGreatReadTellsW
import Derived.Test.YtgjdbbhfgfodlaaGreatParseC
import Derived.Test.YtgjdbbhfgfodlaaGreatParseRefI
namespace Go.Proofs.YtgjdbbhfgfodlaaGreat.Frame
open Go.ChangeShapes Go.WideShapes Go.ChangeAt Go.RowKit Go.Proofs.YtgjdbbhfgfodlaaGreat.Base

theorem rd_of_ints2 {w : World} {a : Option Addr} {len cap : Nat}
    (h : (a = none ∧ len = 0 ∧ cap = 0) ∨ ∃ (x : Addr) (zs : List Int), a = some x ∧ len ≤ cap ∧ cap ≤ maxLen ∧ zs.length = cap ∧ (∀ i, i < zs.length → w.cell? (x.add i) = some (.int .u8 (zs.getD i 0))) ∧ ∀ n ∈ zs, (Lit.int .u8 n).wf = true) :
    ∃ l : List UInt8, Rd w w.heap.size (.slice a len cap) (bs l) ∧ l.length < 9223372036854775808 := by
  rcases h with ⟨rfl, rfl, rfl⟩ | ⟨x, zs, rfl, hl, hm, hz, hc, hw⟩
  · exact ⟨[], Rd.nil _ _, by simp⟩
  · have hlen : (bs ((zs.take len).map fun n => UInt8.ofNat n.toNat)).length = len := by
      rw [bs_length, List.length_map, List.length_take]; omega
    refine ⟨(zs.take len).map fun n => UInt8.ofNat n.toNat, ⟨some x, cap, by rw [hlen], by rw [hlen]; exact hl, fun hne => ?_⟩, ?_⟩
    · have hpos : 0 < len := by
        rcases Nat.eq_zero_or_pos len with h0 | h0
        · subst h0; simp at hlen; exact absurd (List.eq_nil_of_length_eq_zero (by simpa using hlen)) hne
        · exact h0
      have h0 := hc 0 (by omega)
      obtain ⟨b, o, s⟩ := x
      have hs : s = none := by simpa [Addr.add] using World.cell?_spot h0
      subst hs
      refine ⟨b, o, rfl, ?_, fun j u hj => ?_⟩
      · have := World.block_lt_of_cell? w _ h0
        simpa [Addr.add] using this
      · have hjl : j < len := by
          have := (List.getElem?_eq_some_iff.1 hj).1
          rwa [hlen] at this
        have hcj := hc j (by omega)
        rw [Addr.add_lit] at hcj
        rw [hcj]
        have hjz : j < zs.length := by omega
        have hb := bounds_u8 (hw zs[j] (List.getElem_mem hjz))
        have e : (bs ((zs.take len).map fun n => UInt8.ofNat n.toNat))[j]? = some (.int .u8 ((UInt8.ofNat (zs[j]).toNat).toNat : Int)) := by
          simp [bs, hjl, hjz]
        rw [e] at hj
        rw [← hj]
        have e2 : ((UInt8.ofNat (zs[j]).toNat).toNat : Int) = zs[j] := by
          rw [UInt8.toNat_ofNat']
          omega
        rw [e2]
        simp [List.getD, hjz]
    · rw [List.length_map, List.length_take]
      unfold maxLen at hm
      omega
theorem rdL_of_rows2 {w : World} {a : Option Addr} {len cap : Nat}
    (h : (a = none ∧ len = 0 ∧ cap = 0) ∨ ∃ (x : Addr) (A : Nat → Option Addr) (Ln C : Nat → Nat) (Z : Nat → List Int), a = some x ∧ len ≤ cap ∧ cap ≤ maxLen ∧
      ∀ r, r < cap → w.cell? (x.add r) = some (.slice (A r) (Ln r) (C r)) ∧ Ln r ≤ C r ∧ C r ≤ maxLen ∧ (Z r).length = C r ∧ (∀ n ∈ Z r, (Lit.int .u8 n).wf = true) ∧ (A r = none → C r = 0) ∧
        ∀ a', A r = some a' → ∀ c, c < C r → w.cell? (a'.add c) = some (.int .u8 ((Z r).getD c 0))) :
    ∃ ls : List (List UInt8), ls.length = len ∧ RdL w a cap ls ∧ (∀ l ∈ ls, l.length < 9223372036854775808) ∧ len < 9223372036854775808 := by
  rcases h with ⟨rfl, rfl, rfl⟩ | ⟨x, A, Ln, C, Z, rfl, hl, hm, hr⟩
  · exact ⟨[], rfl, RdL.nil w, by simp, by omega⟩
  · have each : ∀ r, r < len → ∃ l : List UInt8, Rd w w.heap.size (.slice (A r) (Ln r) (C r)) (bs l) ∧ l.length < 9223372036854775808 := by
      intro r hlt
      obtain ⟨_, h1, h2, h3, h4, h5, h6⟩ := hr r (by omega)
      refine rd_of_ints2 ?_
      cases hA : A r with
      | none =>
        have := h5 hA
        exact .inl ⟨rfl, by omega, this⟩
      | some a' => exact .inr ⟨a', Z r, rfl, h1, h2, h3, fun i hi => h6 a' hA i (by omega), h4⟩
    obtain ⟨f, hf⟩ := Deep.choose_lt each
    have hlt63 : len < 9223372036854775808 := by unfold maxLen at hm; omega
    refine ⟨(List.range len).map f, by simp, ?_, ?_, hlt63⟩
    · refine ⟨(List.range len).map fun r => .slice (A r) (Ln r) (C r), by simp, ?_, ?_⟩
      · refine ⟨_, cap, rfl, by simpa using hl, fun hn => ?_⟩
        have h0 : 0 < len := by
          rcases Nat.eq_zero_or_pos len with h0 | h0
          · subst h0; simp at hn
          · exact h0
        have hc := (hr 0 (by omega)).1
        obtain ⟨b, o, sp⟩ := x
        have hs : sp = none := by simpa [Addr.add] using World.cell?_spot hc
        subst hs
        refine ⟨b, o, rfl, ?_, fun j u hj => ?_⟩
        · have := World.block_lt_of_cell? w _ hc
          simpa [Addr.add] using this
        · have hjl : j < len := by have := (List.getElem?_eq_some_iff.1 hj).1; simpa using this
          rw [List.getElem?_map, List.getElem?_range hjl] at hj
          obtain rfl : Value.slice (A j) (Ln j) (C j) = u := by simpa using hj
          have := (hr j (by omega)).1
          rwa [Addr.add_lit] at this
      · intro j l hj
        have hjl : j < len := by have := (List.getElem?_eq_some_iff.1 hj).1; simpa using this
        rw [List.getElem?_map, List.getElem?_range hjl] at hj
        refine ⟨_, by rw [List.getElem?_map, List.getElem?_range hjl]; rfl, ?_⟩
        obtain rfl : f j = l := by simpa using hj
        exact (hf j hjl).1
    · intro l hl
      obtain ⟨r, hr', rfl⟩ := List.mem_map.1 hl
      exact (hf r (by simpa using hr')).2
end Go.Proofs.YtgjdbbhfgfodlaaGreat.Frame

namespace Go.Proofs.YtgjdbbhfgfodlaaGreat.readTells
open Go.ChangeShapes Go.WideShapes Go.ChangeAt Go.RowKit Go.Proofs.YtgjdbbhfgfodlaaGreat.Base Go.Proofs.YtgjdbbhfgfodlaaGreat.Frame
open Go.ChangeMaps (open_string shut_string)
set_option linter.unusedVariables false

theorem own : ownKnob Tryz.prog.godebug = none := by kernel_rfl
theorem laidOut : laidOutB Tryz.prog = true := by kernel_rfl

set_option maxRecDepth 100000 in
theorem lifted (os : Os) (started : os.Started) (H : Type) (enc : TypeId × Value → H) :
    ReturnsInHanded {} Tryz.checked os 3 .any (Rows.readTellsSpec.pre6 enc Tryz.prog Tryz.f3 Rows.readTellsRow.domain false) (Rows.readTellsSpec.post enc Tryz.prog Tryz.f3 false true false false) := by
  refine returnsInHanded_of_change (C := Tryz.checked) own started (by kernel_rfl) Tryz.func3
    (ChangeSpec.witness6 (enc := enc) (C := Tryz.checked) false ⟨#[], #[.slice none 0 0, .slice none 0 0], []⟩ 8 (by kernel_rfl) (by kernel_rfl) (by kernel_rfl) (by kernel_rfl)) ?_
  intro W base args ds gs before hval0 hW hcnd _
  have hval : ∀ (j : Nat) t v, Tryz.f3.params[j]? = some t → args[j]? = some v → Value.okWide Tryz.prog W .any base t v := hval0
  have hW' := hW
  obtain ⟨p, q, hA0, hV, rfl, hfz, hnd⟩ := hW
  have hA : DataW.TrodAll enc Tryz.prog W 0 (fun _ => true) true Tryz.f3.params.toList args.toList ds p := hA0
  rw [Tryz.params3] at hA hval
  obtain ⟨v0, vs0, d0, ds0, p0, q0, hargs, rfl, rfl, h0, r0x⟩ := trodAll_cons hA
  obtain ⟨v1, vs1, d1, ds1, p1, q1, rfl, rfl, rfl, h1, r1x⟩ := trodAll_cons r0x
  obtain ⟨rfl, rfl, rfl⟩ := trodAll_nil r1x
  obtain rfl : args = #[v0, v1] := by cases args; simp_all
  obtain ⟨rfl, rfl⟩ := trodVars_none hV
  obtain ⟨A0, len0, cap0, rfl⟩ := okWide_slice Tryz.underlying22 (hval 0 22 v0 rfl rfl)
  have k0 := h0
  have lt0 : ∀ x ∈ p0, x.block < W.heap.size := by obtain ⟨m, hm⟩ := k0; exact DataW.trod_lt m _ _ _ hm
  obtain ⟨a0, rfl, r0, m0⟩ : ∃ ns : List Parse.Evt, ns.length = len0 ∧ Parse.RdE W A0 cap0 ns ∧ len0 < 9223372036854775808 := by
    obtain ⟨fuel, hf⟩ := h0
    exact Parse.open_evs (by simpa [Value.cells] using hf)
  obtain ⟨A1, len1, cap1, rfl⟩ := okWide_slice Tryz.underlying23 (hval 1 23 v1 rfl rfl)
  have k1 := h1
  have lt1 : ∀ x ∈ p1, x.block < W.heap.size := by obtain ⟨m, hm⟩ := k1; exact DataW.trod_lt m _ _ _ hm
  obtain ⟨a1, rfl, r1, n1, m1⟩ : ∃ ls : List (List UInt8), ls.length = len1 ∧ RdL W A1 cap1 ls ∧ (∀ l ∈ ls, l.length < 9223372036854775808) ∧ len1 < 9223372036854775808 := by
    obtain ⟨fuel, hf⟩ := h1
    refine rdL_of_rows2 ?_
    rcases Deep.open_int_rows Tryz.underlying23 Tryz.underlying36 Tryz.underlying5 (by kernel_rfl) (by kernel_rfl) hf with ⟨hcs, _⟩ | ⟨x, l, c, AA, LL, CC, ZZ, hcs, _, hl, hm, _, hr⟩
    · simp [Value.cells] at hcs
      exact .inl hcs
    · simp [Value.cells] at hcs
      obtain ⟨rfl, rfl, rfl⟩ := hcs
      exact .inr ⟨x, AA, LL, CC, ZZ, rfl, hl, hm, fun r hlt => by obtain ⟨q1, q2, q3, q4, q5, q6, q7⟩ := hr r hlt; exact ⟨q1, q2, q3, q4, q5, q6, fun a' e => (q7 a' e).2⟩⟩
  clear hA0 hval0
  refine (Read.tells_s (Read.readR Parse.run_i) Parse.rrun_i a0 a1 _ _ rfl rfl _ _ _ _ W r0 r1 m0 m1 n1).mono fun e W' ⟨he, bel⟩ => ?_
  subst he
  exact ⟨_, rfl, _, _, _, [], _, [], hW', trodAll_mk1 (shut_bool Tryz.underlying4 _), (trodAll_cons_mk (Below.trod laidOut (by kernel_rfl) (of_decide_eq_true (by kernel_rfl)) k0 bel lt0) (trodAll_cons_mk (Below.trod laidOut (by kernel_rfl) (of_decide_eq_true (by kernel_rfl)) k1 bel lt1) trodAll_mk0)), rfl, bel.frame _, fun h => by cases h⟩

theorem over : Rows.readTellsRow.holds Tryz.pinned (OpenSpec.ofChange Rows.readTellsSpec) :=
  OpenClaim.holds_of_wide 3 Tryz.f3 rfl rfl rfl rfl rfl rfl rfl ⟨rfl, rfl, rfl, rfl, rfl⟩ rfl rfl rfl rfl rfl (by kernel_rfl) Tryz.func3 (by kernel_rfl)
    (of_decide_eq_true (by kernel_rfl)) (by unfold Func.isWrapper; first | (rw [if_pos (by decide +kernel)]; kernel_rfl) | (rw [if_neg (by decide +kernel)]; exact ⟨rfl, rfl⟩))
    (fun os started H enc _ => lifted os started H enc)

/-- The statement. -/
theorem proved : Rows.ReadTellsSaid := over
#print axioms proved
end Go.Proofs.YtgjdbbhfgfodlaaGreat.readTells
