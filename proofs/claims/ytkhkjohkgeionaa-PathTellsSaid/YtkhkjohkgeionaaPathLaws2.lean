/-
  The walks of the statements PathSafe and PathParts: each law returns true and writes nothing that was there; the statements themselves are proved in texts of their own.
-/
import Derived.Test.YtkhkjohkgeionaaPathS
namespace Go.Proofs.Ytkhkjohkgeionaa.Path
open Go.RowKit Go.Shelf Go.Proofs.Ytkhkjohkgeionaa.Base Go.Proofs.Ytkhkjohkgeionaa.PathM

theorem idx_l (p : L) (i : Int) (c : UInt8) (h0 : 0 ≤ i) (h : p[i.toNat]? = some c) (w : World) : (Instr.index 9 (.string ⟨p.toArray⟩) (.int .i64 i)).run Try.prog w = .ok (.int .u8 (c.toNat : Int)) w := by
  obtain ⟨hl, hc⟩ := List.getElem?_eq_some_iff.1 h
  rw [run_index_string (P := Try.prog) w 9 _ .i64 i Try.underlying9, dif_pos ⟨h0, by show i < (p.toArray.size : Int); simp; omega⟩]
  rw [← hc]
  rfl
theorem not_slash {c : UInt8} (h : c ≠ 47) : ((c.toNat : Int) == 47) = false := by
  rw [beq_eq_false_iff_ne]
  intro h'
  exact h (UInt8.toNat_inj.1 (by show c.toNat = 47; omega))

set_option maxRecDepth 100000 in
set_option maxHeartbeats 4000000 in
theorem safe_no (p o : L) (i : Int) (w : World) (hp : p.length ≤ 9223372036854775807) (hm : mayB p = false) :
    Calls Try.prog 6 #[.string ⟨p.toArray⟩, .string ⟨o.toArray⟩, .int .i64 i] w fun e w' => e = .returned (.bool true) ∧ Stp w w' := by
  have h0 := Stp.refl w
  have Hm := Lib.hid hm
  clear hm
  go_enter Try.func6, Try.ntmps6
  go_wp2_with (first
    | (go_at_call 10; refine (awake_s _).mono ?_; rintro e w' ⟨rfl, hs⟩; replace h0 := Stp.trans h0 hs; clear hs)
    | (go_at_call 20; refine (may_s p _ hp).mono ?_; rintro e w' ⟨rfl, hs⟩; replace h0 := Stp.trans h0 hs; clear hs; rw [Hm.out]))
  all_goals go_ret
  all_goals exact ⟨rfl, h0⟩

set_option maxRecDepth 100000 in
set_option maxHeartbeats 4000000 in
theorem safe_yes (p o : L) (i : Int) (w : World) (hm : mayB p = true) :
    Calls Try.prog 6 #[.string ⟨p.toArray⟩, .string ⟨o.toArray⟩, .int .i64 i] w fun e w' => e = .returned (.bool true) ∧ Stp w w' := by
  have h0 := Stp.refl w
  by_cases ho : 400 < o.length
  · have g1 : decide (400 < (p.length : Int)) = false := decide_eq_false (by have := okSize hm; omega)
    have g2 : decide (400 < (o.length : Int)) = true := decide_eq_true (by omega)
    clear hm
    go_enter Try.func6, Try.ntmps6
    go_wp2_with (go_at_call 10; refine (awake_s _).mono ?_; rintro e w' ⟨rfl, hs⟩; replace h0 := Stp.trans h0 hs; clear hs)
    all_goals go_ret
    all_goals exact ⟨rfl, h0⟩
  · have hl := okSize hm
    have g1 : decide (400 < (p.length : Int)) = false := decide_eq_false (by omega)
    have g2 : decide (400 < (o.length : Int)) = false := decide_eq_false (by omega)
    obtain ⟨c, d, hc, hd, hc1, hd1⟩ := ends_fact hm
    have hpos : 1 ≤ p.length := (mayB_iff.1 hm).1
    have ic := idx_l p 0 c (by omega) (by simpa using hc)
    have id := idx_l p ((p.length : Int) - 1) d (by omega) (by rw [show ((p.length : Int) - 1).toNat = p.length - 1 by omega]; exact hd)
    have jc := not_slash hc1
    have jd := not_slash hd1
    have hq := pcs_pos p
    rw [← partV_yes hm] at hq
    have hq0 : ((partV p).length == 0) = false := by rw [beq_eq_false_iff_ne]; omega
    have HS : Hid (mayB o = true → (mayB (joinV o p) = true → belowB (joinV o p) o = true) ∧ (¬ mayB (joinV o p) = true → 300 < (joinV o p).length)) := Lib.hid (fun ho => safe_fact hm ho)
    have Hok : Hid (∀ x ∈ partV p, okP x = true) := Lib.hid (by rw [partV_yes hm]; exact (mayB_iff.1 hm).2.2.2)
    have Hm := Lib.hid hm
    obtain ⟨j, hj⟩ : ∃ j, joinV o p = j := ⟨_, rfl⟩
    have hjl : j.length ≤ 701 := by rw [← hj]; unfold joinV; split <;> (try simp only [List.length_append, List.length_cons]) <;> omega
    rw [hj] at HS
    have Hj := Lib.hid hj
    clear hm hc hd hc1 hd1 hj
    by_cases hi : 0 ≤ i ∧ i < (partV p).length
    · obtain ⟨k, rfl⟩ := Int.eq_ofNat_of_zero_le hi.1
      have hk : k < (partV p).length := by omega
      have hk' : decide ((k : Int) < ((partV p).length : Int)) = true := decide_eq_true (by omega)
      obtain ⟨x1, x2, x3⟩ := okP_facts (Hok.out _ (List.getElem_mem hk))
      obtain ⟨x, hx⟩ : ∃ x, (partV p)[k] = x := ⟨_, rfl⟩
      rw [hx] at x1 x2 x3
      have Hx : Hid ((ss (partV p))[k]? = some (.string ⟨x.toArray⟩)) := Lib.hid (by rw [ss_at hk, hx])
      clear hx hi
      go_enter Try.func6, Try.ntmps6
      go_wp2_with (first
        | (go_at_call 10; refine (awake_s _).mono ?_; rintro e w' ⟨rfl, hs⟩; replace h0 := Stp.trans h0 hs; clear hs)
        | (go_at_call 20; (with_reducible refine (may_s p _ (by omega)).mono ?_); rintro e w' ⟨rfl, hs⟩; replace h0 := Stp.trans h0 hs; clear hs; rw [Hm.out])
        | (go_at_call 20; (with_reducible refine (may_s o _ (by omega)).mono ?_); rintro e w' ⟨rfl, hs⟩; replace h0 := Stp.trans h0 hs; clear hs)
        | (go_at_call 20; (with_reducible refine (may_s j _ (by omega)).mono ?_); rintro e w' ⟨rfl, hs⟩; replace h0 := Stp.trans h0 hs; clear hs)
        | (go_at_call 21; (with_reducible refine (below_s j o _ (by omega) (by omega)).mono ?_); rintro e w' ⟨rfl, hs⟩; replace h0 := Stp.trans h0 hs; clear hs)
        | (go_at_call 22; refine (join_s o p _ (by omega)).mono ?_; rintro e w' ⟨rfl, hs⟩; replace h0 := Stp.trans h0 hs; clear hs; rw [Hj.out])
        | (go_at_call 16; (with_reducible refine (parts_s p _ (by omega)).mono ?_); rintro e w' ⟨A, cap, rfl, hr, hs⟩; replace h0 := Stp.trans h0 hs; clear hs; obtain ⟨b, off, rfl, hrd⟩ := hr.at_ (j := k) (by rw [ss_length]; exact hk); have hcell := hrd k _ Hx.out; clear hr hrd))
      all_goals go_ret
      all_goals first | exact ⟨rfl, h0⟩ | refine ⟨ret_bool ?_, h0⟩
      all_goals first
        | exact (HS.out ‹mayB o = true›).1 ‹mayB j = true›
        | (exfalso; have h := ‹partV p = []›; rw [h] at hq; exact absurd hq (by simp))
        | (exfalso; have h := (HS.out ‹mayB o = true›).2 ‹¬ mayB j = true›; omega)
        | (have h := (HS.out ‹mayB o = true›).2 ‹¬ mayB j = true›; rw [decide_eq_true (show (300 : Int) < (j.length : Int) by omega)]; rfl)
    · have hi' : decide (0 ≤ i) = false ∨ (decide (0 ≤ i) = true ∧ decide (i < ((partV p).length : Int)) = false) := by
        simp only [decide_eq_true_eq, decide_eq_false_iff_not]
        omega
      clear hi
      rcases hi' with g3 | ⟨g3, g4⟩
      all_goals
        go_enter Try.func6, Try.ntmps6
        go_wp2_with (first
          | (go_at_call 10; refine (awake_s _).mono ?_; rintro e w' ⟨rfl, hs⟩; replace h0 := Stp.trans h0 hs; clear hs)
          | (go_at_call 20; (with_reducible refine (may_s p _ (by omega)).mono ?_); rintro e w' ⟨rfl, hs⟩; replace h0 := Stp.trans h0 hs; clear hs; rw [Hm.out])
          | (go_at_call 20; (with_reducible refine (may_s o _ (by omega)).mono ?_); rintro e w' ⟨rfl, hs⟩; replace h0 := Stp.trans h0 hs; clear hs)
          | (go_at_call 20; (with_reducible refine (may_s j _ (by omega)).mono ?_); rintro e w' ⟨rfl, hs⟩; replace h0 := Stp.trans h0 hs; clear hs)
          | (go_at_call 21; (with_reducible refine (below_s j o _ (by omega) (by omega)).mono ?_); rintro e w' ⟨rfl, hs⟩; replace h0 := Stp.trans h0 hs; clear hs)
          | (go_at_call 22; refine (join_s o p _ (by omega)).mono ?_; rintro e w' ⟨rfl, hs⟩; replace h0 := Stp.trans h0 hs; clear hs; rw [Hj.out])
          | (go_at_call 16; (with_reducible refine (parts_s p _ (by omega)).mono ?_); rintro e w' ⟨A, cap, rfl, hr, hs⟩; replace h0 := Stp.trans h0 hs; clear hs; clear hr))
        all_goals go_ret
        all_goals first | exact ⟨rfl, h0⟩ | refine ⟨ret_bool ?_, h0⟩
        all_goals first
          | exact (HS.out ‹mayB o = true›).1 ‹mayB j = true›
          | (exfalso; have h := ‹partV p = []›; rw [h] at hq; exact absurd hq (by simp))
          | (exfalso; have h := (HS.out ‹mayB o = true›).2 ‹¬ mayB j = true›; omega)
          | (have h := (HS.out ‹mayB o = true›).2 ‹¬ mayB j = true›; rw [decide_eq_true (show (300 : Int) < (j.length : Int) by omega)]; rfl)

theorem safe_walk (p o : L) (i : Int) (w : World) (hp : p.length ≤ 9223372036854775807) :
    Calls Try.prog 6 #[.string ⟨p.toArray⟩, .string ⟨o.toArray⟩, .int .i64 i] w fun e w' => e = .returned (.bool true) ∧ Stp w w' := by
  cases hm : mayB p
  · exact safe_no p o i w hp hm
  · exact safe_yes p o i w hm

theorem rdA_get {w : World} {b o cap : Nat} {xs : List Value} {u : Value} {j : Nat} (h : RdA w (some ⟨b, o, none⟩) cap xs) (hj : xs[j]? = some u) : w.cell? ⟨b, o + j, none⟩ = some u := by
  obtain ⟨b', o', he, hu⟩ := h.at_ (List.getElem?_eq_some_iff.1 hj).1
  simp only [Option.some.injEq, Addr.mk.injEq] at he
  obtain ⟨rfl, rfl, _⟩ := he
  exact hu j u hj

set_option maxRecDepth 100000 in
set_option maxHeartbeats 4000000 in
theorem parts_walk (p : L) (w : World) (hp : p.length ≤ 9223372036854775807) :
    Calls Try.prog 9 #[.string ⟨p.toArray⟩] w fun e w' => e = .returned (.bool true) ∧ Stp w w' := by
  have h0 := Stp.refl w
  cases hm : mayB p
  · have Hm := Lib.hid hm
    have Hl : Hid ((partV p).length = 0) := Lib.hid (by rw [partV_no hm]; rfl)
    clear hm
    go_enter Try.func9, Try.ntmps9
    go_wp2_with (first
      | (go_at_call 10; refine (awake_s _).mono ?_; rintro e w' ⟨rfl, hs⟩; replace h0 := Stp.trans h0 hs; clear hs)
      | (go_at_call 20; refine (may_s p _ hp).mono ?_; rintro e w' ⟨rfl, hs⟩; replace h0 := Stp.trans h0 hs; clear hs; rw [Hm.out])
      | (go_at_call 16; refine (parts_s p _ hp).mono ?_; rintro e w' ⟨A, cap, rfl, hr, hs⟩; replace h0 := Stp.trans h0 hs; clear hs hr; rw [Hl.out]))
    all_goals go_ret
    all_goals exact ⟨rfl, h0⟩
  · have hl := okSize hm
    have g1 : decide (400 < (p.length : Int)) = false := decide_eq_false (by omega)
    obtain ⟨n, hn⟩ : ∃ n, n = (partV p).length := ⟨_, rfl⟩
    have hn1 : 1 ≤ n := by rw [hn, partV_yes hm]; exact pcs_pos p
    have hn2 : n ≤ 301 := by rw [hn]; exact partV_len p
    have Hn := Lib.hid hn
    have Hm := Lib.hid hm
    have Hjp : Hid (joinS (partV p) = p) := Lib.hid (by rw [partV_yes hm]; exact joinS_pcs p)
    have Hpt : Hid (∀ x ∈ partV p, mayB x = true ∧ (partV x).length = 1) := Lib.hid (by
      intro x hx
      rw [partV_yes hm] at hx
      have h := mayB_part hm hx
      exact ⟨h, by rw [partV_yes h, pcs_one (mem_pcs hx)]; rfl⟩)
    clear hm hn
    go_enter Try.func9, Try.ntmps9
    go_wp2_with (first
      | (go_at_call 10; refine (awake_s _).mono ?_; rintro e w' ⟨rfl, hs⟩; replace h0 := Stp.trans h0 hs; clear hs)
      | (go_at_call 20; refine (may_s p _ hp).mono ?_; rintro e w' ⟨rfl, hs⟩; replace h0 := Stp.trans h0 hs; clear hs; rw [Hm.out]))
    refine (parts_s p _ hp).mono ?_
    rintro e w1 ⟨A, cap, rfl, hr, hs⟩
    replace h0 := Stp.trans h0 hs
    obtain ⟨b, off, rfl, _⟩ := hr.at_ (j := 0) (by rw [ss_length, ← Hn.out]; omega)
    rw [← Hn.out]
    clear hs
    go_wp2_with fail
    go_loopw [5, 6] (fun s i wr => ∃ (k : Nat) (x : L), k ≤ n ∧ i = .int .i64 k ∧ s = .string ⟨x.toArray⟩ ∧ x.length ≤ 300 ∧ Hid (x = joinS ((partV p).take k)) ∧ RdA wr (some ⟨b, off, none⟩) cap (ss (partV p)) ∧ Stp w wr)
      (fun _ i _ => n - (intOf i).toNat)
    case atStart => exact ⟨0, [], by omega, rfl, rfl, by simp, Lib.hid rfl, hr, h0⟩
    case round =>
      obtain ⟨k, x, hk, rfl, rfl, hxl, Hx, hr, h0⟩ := hrel
      by_cases hlt : k < n
      · have hlt' : k < (partV p).length := by rw [← Hn.out]; exact hlt
        obtain ⟨q1, q2⟩ := Hpt.out _ (List.getElem_mem hlt')
        have hnext := joinS_take_succ hlt' (fun y hy h => absurd (Hpt.out y hy).1 (by rw [h]; decide))
        obtain ⟨y, hy⟩ : ∃ y, (partV p)[k] = y := ⟨_, rfl⟩
        rw [hy] at q1 q2 hnext
        have hyl := okSize q1
        have Hy : Hid ((ss (partV p))[k]? = some (.string ⟨y.toArray⟩)) := Lib.hid (by rw [ss_at hlt', hy])
        have Q1 := Lib.hid q1
        have Q2 := Lib.hid q2
        rw [← Hx.out] at hnext
        have Hnext := Lib.hid hnext
        have hcell := rdA_get hr Hy.out
        clear q1 q2 hy hnext hlt'
        go_wp2_with (first
          | (go_at_call 20; refine (may_s y _ (by omega)).mono ?_; rintro e w' ⟨rfl, hs⟩; replace h0 := Stp.trans h0 hs; replace hr := hr.keep hs; replace hcell := rdA_get hr Hy.out; clear hs; rw [Q1.out])
          | (go_at_call 16; refine (parts_s y _ (by omega)).mono ?_; rintro e w' ⟨A, cap', rfl, _, hs⟩; replace h0 := Stp.trans h0 hs; replace hr := hr.keep hs; replace hcell := rdA_get hr Hy.out; clear hs; rw [Q2.out])
          | (go_at_call 22; refine (join_s x y _ (by omega)).mono ?_; rintro e w' ⟨rfl, hs⟩; replace h0 := Stp.trans h0 hs; replace hr := hr.keep hs; clear hs hcell; rw [← Hnext.out]))
        go_roundw
        case rel =>
          refine ⟨k + 1, _, by omega, by go_num, rfl, ?_, Lib.hid rfl, hr, h0⟩
          have := joinS_take_len (xs := partV p) (k + 1)
          rw [Hjp.out] at this
          omega
        case measure => simp [intOf]; omega
      · obtain rfl : k = n := by omega
        have hx : x = p := by rw [Hx.out, List.take_of_length_le (by rw [← Hn.out]; exact Nat.le_refl _), Hjp.out]
        subst hx
        go_wp2_with fail
        go_ret
        exact ⟨rfl, h0⟩
end Go.Proofs.Ytkhkjohkgeionaa.Path
