/-
  Contracts of the document's answers for paths (package reelkeeperref02): Parts, Parent, Below, Join, Split, Texts: no statement is proved here.
-/
import Derived.Test.YtcgihjgfocohmaaPathRef
namespace Go.Proofs.Ytcgihjgfocohmaa.Path
open Go.RowKit Go.Shelf Go.Proofs.Ytcgihjgfocohmaa.Base Go.Proofs.Ytcgihjgfocohmaa.PathM

set_option maxRecDepth 100000 in
theorem rparts_s (p : L) (w : World) (hp : p.length ≤ 9223372036854775807) :
    Calls Try.prog 40 #[.string ⟨p.toArray⟩] w fun e w' => ∃ A cap, e = .returned (.slice A (partV p).length cap) ∧ RdA w' A cap (ss (partV p)) ∧ Stp w w' := by
  have h0 := Stp.refl w
  cases hm : mayB p
  · rw [partV_no hm]
    have Hm := Lib.hid hm
    clear hm
    go_enter Try.func40, Try.ntmps40
    go_wp2_with (go_at_call 25; refine (rmay_s p _ hp).mono ?_; rintro e w' ⟨rfl, hs⟩; replace h0 := Stp.trans h0 hs; clear hs; rw [Hm.out])
    go_ret
    exact ⟨none, 0, rfl, Rd.nil _ _, h0⟩
  · rw [partV_yes hm]
    have hl := okSize hm
    have Hm := Lib.hid hm
    clear hm
    go_enter Try.func40, Try.ntmps40
    go_wp2_with (go_at_call 25; refine (rmay_s p _ hp).mono ?_; rintro e w' ⟨rfl, hs⟩; replace h0 := Stp.trans h0 hs; clear hs; rw [Hm.out])
    refine (pieces_s p _ hl).mono ?_
    rintro e w1 ⟨A, cap, rfl, hr, hs⟩
    replace h0 := Stp.trans h0 hs
    clear hs
    go_wp2_with fail
    go_ret
    exact ⟨A, cap, rfl, hr, h0⟩

set_option maxRecDepth 100000 in
set_option maxHeartbeats 1000000 in
theorem rparent_s (p : L) (w : World) (hp : p.length ≤ 9223372036854775807) :
    Calls Try.prog 27 #[.string ⟨p.toArray⟩] w fun e w' => e = .returned (.tuple #[.string ⟨(parV p).toArray⟩, .bool (parB p)]) ∧ Stp w w' := by
  have h0 := Stp.refl w
  obtain ⟨n, hn⟩ : ∃ n, n = (partV p).length := ⟨_, rfl⟩
  have hn2 := partV_len p
  rw [← hn] at hn2
  cases hb : parB p
  · have e1 : parV p = [] ∧ n ≤ 1 := by
      cases hm : mayB p
      · exact ⟨by unfold parV; rw [if_neg (by simp [hm])], by rw [hn, partV_no hm]; simp⟩
      · obtain ⟨f1, f2⟩ := par_no hm hb
        exact ⟨f1, by rw [hn, partV_yes hm, f2]; exact Nat.le_refl _⟩
    rw [e1.1]
    have g := e1.2
    have g1 : decide ((n : Int) < 2) = true := decide_eq_true (by omega)
    have Hn := Lib.hid hn
    clear e1 hn hb
    go_enter Try.func27, Try.ntmps27
    go_wp2_with (go_at_call 40; refine (rparts_s p _ hp).mono ?_; rintro e w' ⟨A, cap, rfl, hr, hs⟩; replace h0 := Stp.trans h0 hs; clear hs hr; rw [← Hn.out])
    go_ret2
    exact ⟨rfl, h0⟩
  · have hm : mayB p = true := (par_yes hb).1
    have hl := okSize hm
    match hc : lastCut p with
    | none => exact absurd hb (by unfold parB; rw [hm, hc]; simp)
    | some (a, b) =>
      obtain ⟨q1, q2⟩ := lastCut_some hc
      have hlen : p.length = a.length + 1 + b.length := by
        have h := congrArg List.length q1
        rw [List.length_append, List.length_cons] at h
        omega
      have e1 : parV p = a := by unfold parV; rw [if_pos hm, hc]
      have hpc : partV p = pcs a ++ [b] := by rw [partV_yes hm, pcs_lastCut hc]
      obtain ⟨m, hm1⟩ : ∃ m, m = (pcs a).length := ⟨_, rfl⟩
      have hmp := pcs_pos a
      rw [← hm1] at hmp
      have hnm : n = m + 1 := by rw [hn, hpc, hm1]; simp
      have Hx : Hid ((ss (partV p))[m]? = some (.string ⟨b.toArray⟩)) := Lib.hid (by rw [hpc, ss_append, hm1, ← ss_length, List.getElem?_append_right (Nat.le_refl _), Nat.sub_self]; rfl)
      have He : Hid ((ByteArray.mk p.toArray).extract 0 a.length = ⟨a.toArray⟩) := Lib.hid (ba_eq (by
        rw [extract_take]
        show p.take a.length = a
        conv => lhs; rw [q1]
        exact List.take_left))
      rw [e1]
      have Hn := Lib.hid hn
      clear e1 hpc hn hb hm hc q1 q2 hm1
      subst hnm
      go_enter Try.func27, Try.ntmps27
      go_wp2_with (go_at_call 40; refine (rparts_s p _ hp).mono ?_; rintro e w' ⟨A, cap, rfl, hr, hs⟩; replace h0 := Stp.trans h0 hs; rw [← Hn.out]; obtain ⟨bk, off, rfl, hrd⟩ := hr.at_ (j := m) (by rw [ss_length, ← Hn.out]; omega); have hcell := hrd m _ Hx.out; clear hs hr hrd)
      go_ret2
      exact ⟨by rw [← He.out]; rfl, h0⟩

theorem prefB_take (q p : L) : prefB (q ++ [47]) p = (p.take (q.length + 1) == q ++ [47]) := by
  rw [prefB, Bool.eq_iff_iff, List.isPrefixOf_iff_prefix, beq_iff_eq, List.prefix_iff_eq_take, List.length_append, List.length_singleton]
  exact eq_comm
theorem prefB_short {q p : L} (h : ¬ q.length < p.length) : prefB (q ++ [47]) p = false := by
  rw [prefB, Bool.eq_false_iff]
  intro hp
  have := (List.isPrefixOf_iff_prefix.1 hp).length_le
  rw [List.length_append, List.length_singleton] at this
  omega

set_option maxRecDepth 100000 in
set_option maxHeartbeats 1000000 in
theorem rbelow_s (p q : L) (w : World) (hp : p.length ≤ 9223372036854775807) (hq : q.length ≤ 9223372036854775807) :
    Calls Try.prog 29 #[.string ⟨p.toArray⟩, .string ⟨q.toArray⟩] w fun e w' => e = .returned (.bool (belowB p q)) ∧ Stp w w' := by
  have h0 := Stp.refl w
  by_cases hmm : mayB p = true ∧ mayB q = true
  · obtain ⟨hm, hn⟩ := hmm
    have hpl := okSize hm
    have hql := okSize hn
    have e : belowB p q = prefB (q ++ [47]) p := by unfold belowB; rw [hm, hn]; rfl
    rw [e]
    have Hm := Lib.hid hm
    have Hn := Lib.hid hn
    clear hm hn e
    by_cases hl : q.length < p.length
    · rw [prefB_take q p]
      have g : decide ((q.length : Int) < (p.length : Int)) = true := decide_eq_true (by omega)
      have hcut := cut_h p (q.length + 1) (by omega)
      rw [show ((q.length + 1 : Nat) : Int) = (q.length : Int) + 1 by omega] at hcut
      have hadd := add_ll q [47] (by simp; omega)
      obtain ⟨t, ht⟩ : ∃ t, p.take (q.length + 1) = t := ⟨_, rfl⟩
      rw [ht] at hcut ⊢
      clear ht
      go_enter Try.func29, Try.ntmps29
      go_wp2_with (first
        | (go_at_call 25; (with_reducible refine (rmay_s p _ hp).mono ?_); rintro e w' ⟨rfl, hs⟩; replace h0 := Stp.trans h0 hs; clear hs; rw [Hm.out])
        | (go_at_call 25; (with_reducible refine (rmay_s q _ hq).mono ?_); rintro e w' ⟨rfl, hs⟩; replace h0 := Stp.trans h0 hs; clear hs; rw [Hn.out]))
      go_ret
      exact ⟨rfl, h0⟩
    · rw [prefB_short hl]
      have g : decide ((q.length : Int) < (p.length : Int)) = false := decide_eq_false (by omega)
      go_enter Try.func29, Try.ntmps29
      go_wp2_with (first
        | (go_at_call 25; (with_reducible refine (rmay_s p _ hp).mono ?_); rintro e w' ⟨rfl, hs⟩; replace h0 := Stp.trans h0 hs; clear hs; rw [Hm.out])
        | (go_at_call 25; (with_reducible refine (rmay_s q _ hq).mono ?_); rintro e w' ⟨rfl, hs⟩; replace h0 := Stp.trans h0 hs; clear hs; rw [Hn.out]))
      go_ret
      exact ⟨rfl, h0⟩
  · have e : belowB p q = false := by
      unfold belowB
      cases h1 : mayB p
      · rfl
      · cases h2 : mayB q
        · rfl
        · exact absurd ⟨h1, h2⟩ hmm
    rw [e]
    have Hmm := Lib.hid hmm
    clear e hmm
    go_enter Try.func29, Try.ntmps29
    go_wp2_with (first
      | (go_at_call 25; (with_reducible refine (rmay_s p _ hp).mono ?_); rintro e w' ⟨rfl, hs⟩; replace h0 := Stp.trans h0 hs; clear hs; obtain ⟨m, hm⟩ : ∃ m, mayB p = m := ⟨_, rfl⟩; rw [hm]; have Hm := Lib.hid hm; clear hm; cases m)
      | (go_at_call 25; (with_reducible refine (rmay_s q _ hq).mono ?_); rintro e w' ⟨rfl, hs⟩; replace h0 := Stp.trans h0 hs; clear hs; obtain ⟨k, hk⟩ : ∃ k, mayB q = k := ⟨_, rfl⟩; rw [hk]; have Hk := Lib.hid hk; clear hk; cases k))
    all_goals first
      | exact absurd ⟨(by assumption : Hid (mayB p = true)).out, (by assumption : Hid (mayB q = true)).out⟩ Hmm.out
      | (go_ret; exact ⟨rfl, h0⟩)

theorem firstCut_of {a b : L} (h : (47 : UInt8) ∉ a) : firstCut (a ++ 47 :: b) = some (a, b) := by
  induction a with
  | nil => rfl
  | cons c a ih =>
    simp only [List.mem_cons, not_or] at h
    rw [List.cons_append, firstCut, if_neg (fun e => h.1 e.symm), ih h.2]
theorem firstCut_one {a : L} (h : (47 : UInt8) ∉ a) : firstCut a = none := by
  induction a with
  | nil => rfl
  | cons c a ih =>
    simp only [List.mem_cons, not_or] at h
    rw [firstCut, if_neg (fun e => h.1 e.symm), ih h.2]

end Go.Proofs.Ytcgihjgfocohmaa.Path
