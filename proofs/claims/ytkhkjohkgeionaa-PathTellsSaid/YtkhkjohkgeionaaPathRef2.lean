/-
  Contracts of the document's answers for paths (package reelkeeperref02): Parts, Parent, Below, Join, Split, Texts: no statement is proved here.
-/
import Derived.Test.YtkhkjohkgeionaaPathRef
namespace Go.Proofs.Ytkhkjohkgeionaa.Path
open Go.RowKit Go.Shelf Go.Proofs.Ytkhkjohkgeionaa.Base Go.Proofs.Ytkhkjohkgeionaa.PathM

set_option maxRecDepth 100000 in
theorem rparts_s (p : L) (w : World) (hp : p.length ≤ 9223372036854775807) :
    Calls Try.prog 17 #[.string ⟨p.toArray⟩] w fun e w' => ∃ A cap, e = .returned (.slice A (partV p).length cap) ∧ RdA w' A cap (ss (partV p)) ∧ Stp w w' := by
  have h0 := Stp.refl w
  cases hm : mayB p
  · rw [partV_no hm]
    have Hm := Lib.hid hm
    clear hm
    go_enter Try.func17, Try.ntmps17
    go_wp2_with (go_at_call 18; refine (rmay_s p _ hp).mono ?_; rintro e w' ⟨rfl, hs⟩; replace h0 := Stp.trans h0 hs; clear hs; rw [Hm.out])
    go_ret
    exact ⟨none, 0, rfl, Rd.nil _ _, h0⟩
  · rw [partV_yes hm]
    have hl := okSize hm
    have Hm := Lib.hid hm
    clear hm
    go_enter Try.func17, Try.ntmps17
    go_wp2_with (go_at_call 18; refine (rmay_s p _ hp).mono ?_; rintro e w' ⟨rfl, hs⟩; replace h0 := Stp.trans h0 hs; clear hs; rw [Hm.out])
    refine (pieces_s p _ hl).mono ?_
    rintro e w1 ⟨A, cap, rfl, hr, hs⟩
    replace h0 := Stp.trans h0 hs
    clear hs
    go_wp2_with fail
    go_ret
    exact ⟨A, cap, rfl, hr, h0⟩

theorem rjoin_s (a b : L) (w : World) (h : a.length + b.length + 1 ≤ 9223372036854775807) :
    Calls Try.prog 23 #[.string ⟨a.toArray⟩, .string ⟨b.toArray⟩] w fun e w' => e = .returned (.string ⟨(joinV a b).toArray⟩) ∧ Stp w w' := by
  have h0 := Stp.refl w
  cases ha : (a == [])
  · have e : joinV a b = a ++ 47 :: b := by simp at ha; simp [joinV, ha]
    rw [e]
    have h1 := add_ll a [47] (by simp; omega)
    have h2 := add_ll (a ++ [47]) b (by simp; omega)
    clear e
    go_enter Try.func23, Try.ntmps23
    go_wp2_with fail
    go_ret
    exact ⟨rfl, h0⟩
  · have e : joinV a b = b := by simp at ha; simp [joinV, ha]
    rw [e]
    clear e
    go_enter Try.func23, Try.ntmps23
    go_wp2_with fail
    go_ret
    exact ⟨rfl, h0⟩

set_option maxRecDepth 100000 in
set_option maxHeartbeats 1000000 in
theorem rparent_s (p : L) (w : World) (hp : p.length ≤ 9223372036854775807) :
    Calls Try.prog 12 #[.string ⟨p.toArray⟩] w fun e w' => e = .returned (.tuple #[.string ⟨(parV p).toArray⟩, .bool (parB p)]) ∧ Stp w w' := by
  have h0 := Stp.refl w
  obtain ⟨n, hn⟩ : ∃ n, n = (partV p).length := ⟨_, rfl⟩
  have hn2 := partV_len p
  rw [← hn] at hn2
  cases hb : parB p
  · have e1 : parV p = [] ∧ n ≤ 1 := by
      cases hm : mayB p
      · exact ⟨by unfold parV; rw [if_neg (by simp [hm])], by rw [hn, partV_no hm]; simp⟩
      · obtain ⟨f1, f2⟩ := par_no hm hb
        exact ⟨f1, by rw [hn, partV_yes hm, f2]; exact Nat.le_refl _⟩
    rw [e1.1]
    have g := e1.2
    have g1 : decide ((n : Int) < 2) = true := decide_eq_true (by omega)
    have Hn := Lib.hid hn
    clear e1 hn hb
    go_enter Try.func12, Try.ntmps12
    go_wp2_with (go_at_call 17; refine (rparts_s p _ hp).mono ?_; rintro e w' ⟨A, cap, rfl, hr, hs⟩; replace h0 := Stp.trans h0 hs; clear hs hr; rw [← Hn.out])
    go_ret2
    exact ⟨rfl, h0⟩
  · have hm : mayB p = true := (par_yes hb).1
    have hl := okSize hm
    match hc : lastCut p with
    | none => exact absurd hb (by unfold parB; rw [hm, hc]; simp)
    | some (a, b) =>
      obtain ⟨q1, q2⟩ := lastCut_some hc
      have hlen : p.length = a.length + 1 + b.length := by
        have h := congrArg List.length q1
        rw [List.length_append, List.length_cons] at h
        omega
      have e1 : parV p = a := by unfold parV; rw [if_pos hm, hc]
      have hpc : partV p = pcs a ++ [b] := by rw [partV_yes hm, pcs_lastCut hc]
      obtain ⟨m, hm1⟩ : ∃ m, m = (pcs a).length := ⟨_, rfl⟩
      have hmp := pcs_pos a
      rw [← hm1] at hmp
      have hnm : n = m + 1 := by rw [hn, hpc, hm1]; simp
      have Hx : Hid ((ss (partV p))[m]? = some (.string ⟨b.toArray⟩)) := Lib.hid (by rw [hpc, ss_append, hm1, ← ss_length, List.getElem?_append_right (Nat.le_refl _), Nat.sub_self]; rfl)
      have He : Hid ((ByteArray.mk p.toArray).extract 0 a.length = ⟨a.toArray⟩) := Lib.hid (ba_eq (by
        rw [extract_take]
        show p.take a.length = a
        conv => lhs; rw [q1]
        exact List.take_left))
      rw [e1]
      have Hn := Lib.hid hn
      clear e1 hpc hn hb hm hc q1 q2 hm1
      subst hnm
      go_enter Try.func12, Try.ntmps12
      go_wp2_with (go_at_call 17; refine (rparts_s p _ hp).mono ?_; rintro e w' ⟨A, cap, rfl, hr, hs⟩; replace h0 := Stp.trans h0 hs; rw [← Hn.out]; obtain ⟨bk, off, rfl, hrd⟩ := hr.at_ (j := m) (by rw [ss_length, ← Hn.out]; omega); have hcell := hrd m _ Hx.out; clear hs hr hrd)
      go_ret2
      exact ⟨by rw [← He.out]; rfl, h0⟩

theorem prefB_take (q p : L) : prefB (q ++ [47]) p = (p.take (q.length + 1) == q ++ [47]) := by
  rw [prefB, Bool.eq_iff_iff, List.isPrefixOf_iff_prefix, beq_iff_eq, List.prefix_iff_eq_take, List.length_append, List.length_singleton]
  exact eq_comm
theorem prefB_short {q p : L} (h : ¬ q.length < p.length) : prefB (q ++ [47]) p = false := by
  rw [prefB, Bool.eq_false_iff]
  intro hp
  have := (List.isPrefixOf_iff_prefix.1 hp).length_le
  rw [List.length_append, List.length_singleton] at this
  omega

set_option maxRecDepth 100000 in
set_option maxHeartbeats 1000000 in
theorem rbelow_s (p q : L) (w : World) (hp : p.length ≤ 9223372036854775807) (hq : q.length ≤ 9223372036854775807) :
    Calls Try.prog 19 #[.string ⟨p.toArray⟩, .string ⟨q.toArray⟩] w fun e w' => e = .returned (.bool (belowB p q)) ∧ Stp w w' := by
  have h0 := Stp.refl w
  by_cases hmm : mayB p = true ∧ mayB q = true
  · obtain ⟨hm, hn⟩ := hmm
    have hpl := okSize hm
    have hql := okSize hn
    have e : belowB p q = prefB (q ++ [47]) p := by unfold belowB; rw [hm, hn]; rfl
    rw [e]
    have Hm := Lib.hid hm
    have Hn := Lib.hid hn
    clear hm hn e
    by_cases hl : q.length < p.length
    · rw [prefB_take q p]
      have g : decide ((q.length : Int) < (p.length : Int)) = true := decide_eq_true (by omega)
      have hcut := cut_h p (q.length + 1) (by omega)
      rw [show ((q.length + 1 : Nat) : Int) = (q.length : Int) + 1 by omega] at hcut
      have hadd := add_ll q [47] (by simp; omega)
      obtain ⟨t, ht⟩ : ∃ t, p.take (q.length + 1) = t := ⟨_, rfl⟩
      rw [ht] at hcut ⊢
      clear ht
      go_enter Try.func19, Try.ntmps19
      go_wp2_with (first
        | (go_at_call 18; (with_reducible refine (rmay_s p _ hp).mono ?_); rintro e w' ⟨rfl, hs⟩; replace h0 := Stp.trans h0 hs; clear hs; rw [Hm.out])
        | (go_at_call 18; (with_reducible refine (rmay_s q _ hq).mono ?_); rintro e w' ⟨rfl, hs⟩; replace h0 := Stp.trans h0 hs; clear hs; rw [Hn.out]))
      go_ret
      exact ⟨rfl, h0⟩
    · rw [prefB_short hl]
      have g : decide ((q.length : Int) < (p.length : Int)) = false := decide_eq_false (by omega)
      go_enter Try.func19, Try.ntmps19
      go_wp2_with (first
        | (go_at_call 18; (with_reducible refine (rmay_s p _ hp).mono ?_); rintro e w' ⟨rfl, hs⟩; replace h0 := Stp.trans h0 hs; clear hs; rw [Hm.out])
        | (go_at_call 18; (with_reducible refine (rmay_s q _ hq).mono ?_); rintro e w' ⟨rfl, hs⟩; replace h0 := Stp.trans h0 hs; clear hs; rw [Hn.out]))
      go_ret
      exact ⟨rfl, h0⟩
  · have e : belowB p q = false := by
      unfold belowB
      cases h1 : mayB p
      · rfl
      · cases h2 : mayB q
        · rfl
        · exact absurd ⟨h1, h2⟩ hmm
    rw [e]
    have Hmm := Lib.hid hmm
    clear e hmm
    go_enter Try.func19, Try.ntmps19
    go_wp2_with (first
      | (go_at_call 18; (with_reducible refine (rmay_s p _ hp).mono ?_); rintro e w' ⟨rfl, hs⟩; replace h0 := Stp.trans h0 hs; clear hs; obtain ⟨m, hm⟩ : ∃ m, mayB p = m := ⟨_, rfl⟩; rw [hm]; have Hm := Lib.hid hm; clear hm; cases m)
      | (go_at_call 18; (with_reducible refine (rmay_s q _ hq).mono ?_); rintro e w' ⟨rfl, hs⟩; replace h0 := Stp.trans h0 hs; clear hs; obtain ⟨k, hk⟩ : ∃ k, mayB q = k := ⟨_, rfl⟩; rw [hk]; have Hk := Lib.hid hk; clear hk; cases k))
    all_goals first
      | exact absurd ⟨(by assumption : Hid (mayB p = true)).out, (by assumption : Hid (mayB q = true)).out⟩ Hmm.out
      | (go_ret; exact ⟨rfl, h0⟩)

/-- Two lists that are the same. -/
theorem texts_s (xs : List L) (A B : Option Addr) (c d : Nat) (w : World) (hx : xs.length ≤ 301) (ha : RdA w A c (ss xs)) (hb : RdA w B d (ss xs)) :
    Calls Try.prog 15 #[.slice A xs.length c, .slice B xs.length d] w fun e w' => e = .returned (.bool true) ∧ Stp w w' := by
  go_enter Try.func15, Try.ntmps15
  go_wp2_with fail
  go_loopw [5] (fun i wr => ∃ k : Nat, k ≤ xs.length ∧ i = .int .i64 k ∧ Stp w wr) (fun i _ => xs.length - (intOf i).toNat)
  case atStart => exact ⟨0, by omega, rfl, Stp.refl w⟩
  case round =>
    obtain ⟨k, hk, rfl, h0⟩ := hrel
    by_cases hlt : k < xs.length
    · obtain ⟨b, off, rfl, ha2⟩ := (ha.keep h0).at_ (j := k) (by rw [ss_length]; exact hlt)
      obtain ⟨b', off', rfl, hb2⟩ := (hb.keep h0).at_ (j := k) (by rw [ss_length]; exact hlt)
      have c1 := ha2 k _ (ss_at hlt)
      have c2 := hb2 k _ (ss_at hlt)
      obtain ⟨x, hx'⟩ : ∃ x, xs[k] = x := ⟨_, rfl⟩
      rw [hx'] at c1 c2
      have hne : (x != x) = false := by simp
      clear ha2 hb2 hx'
      have i0 : (0 : Int) ≤ (k : Int) := by omega
      have i1 : (k : Int) < (xs.length : Int) := by omega
      go_wp2_with fail
      go_quiet (fail)
      all_goals go_wp2_with fail
      all_goals go_roundw
      all_goals first
        | exact ⟨k + 1, by omega, by go_num, Stp.drewN h0 _⟩
        | (simp [intOf]; omega)
    · obtain rfl : k = xs.length := by omega
      go_wp2_with fail
      go_ret
      exact ⟨rfl, h0⟩

theorem firstCut_of {a b : L} (h : (47 : UInt8) ∉ a) : firstCut (a ++ 47 :: b) = some (a, b) := by
  induction a with
  | nil => rfl
  | cons c a ih =>
    simp only [List.mem_cons, not_or] at h
    rw [List.cons_append, firstCut, if_neg (fun e => h.1 e.symm), ih h.2]
theorem firstCut_one {a : L} (h : (47 : UInt8) ∉ a) : firstCut a = none := by
  induction a with
  | nil => rfl
  | cons c a ih =>
    simp only [List.mem_cons, not_or] at h
    rw [firstCut, if_neg (fun e => h.1 e.symm), ih h.2]

set_option maxRecDepth 100000 in
set_option maxHeartbeats 2000000 in
theorem rsplit_s (p : L) (w : World) (hp : p.length ≤ 9223372036854775807) :
    Calls Try.prog 14 #[.string ⟨p.toArray⟩] w fun e w' => e = .returned (.tuple #[.string ⟨(splV p).1.toArray⟩, .string ⟨(splV p).2.toArray⟩, .bool (splB p)]) ∧ Stp w w' := by
  have h0 := Stp.refl w
  cases hm : mayB p
  · obtain ⟨e1, e2⟩ := splV_none (p := p) (by unfold splitO; rw [if_neg (by simp [hm])])
    rw [e1, e2]
    have Hm := Lib.hid hm
    clear e1 e2 hm
    go_enter Try.func14, Try.ntmps14
    go_wp2_with (go_at_call 18; refine (rmay_s p _ hp).mono ?_; rintro e w' ⟨rfl, hs⟩; replace h0 := Stp.trans h0 hs; clear hs; rw [Hm.out])
    go_ret3
    exact ⟨rfl, h0⟩
  · have h300 := okSize hm
    by_cases hl : p.length ≤ 100
    · obtain ⟨e1, e2⟩ := splV_some (p := p) (a := []) (b := p) (by unfold splitO; rw [if_pos hm, if_pos hl])
      rw [e1, e2]
      have Hm := Lib.hid hm
      clear e1 e2 hm
      have g : decide ((p.length : Int) ≤ 100) = true := decide_eq_true (by omega)
      go_enter Try.func14, Try.ntmps14
      go_wp2_with (go_at_call 18; refine (rmay_s p _ hp).mono ?_; rintro e w' ⟨rfl, hs⟩; replace h0 := Stp.trans h0 hs; clear hs; rw [Hm.out])
      go_ret3
      exact ⟨rfl, h0⟩
    · have g : decide ((p.length : Int) ≤ 100) = false := decide_eq_false (by omega)
      obtain ⟨m, hm1⟩ : ∃ m, m = p.length - 101 := ⟨_, rfl⟩
      have hmm : m + 101 = p.length := by omega
      have hO : splitO p = match firstCut (p.drop m) with
        | some (a, b) => if m + a.length ≤ 155 then some (p.take (m + a.length), b) else none
        | none => none := by unfold splitO; rw [if_pos hm, if_neg hl, hm1]; cases firstCut (p.drop (p.length - 101)) <;> rfl
      have HO := Lib.hid hO
      obtain ⟨sv, hsv⟩ : ∃ sv, splV p = sv := ⟨_, rfl⟩
      obtain ⟨sb, hsb⟩ : ∃ sb, splB p = sb := ⟨_, rfl⟩
      rw [hsv, hsb]
      have Hsv := Lib.hid hsv
      have Hsb := Lib.hid hsb
      have Hm := Lib.hid hm
      clear hm hO hsv hsb hm1
      go_enter Try.func14, Try.ntmps14
      go_wp2_with (go_at_call 18; refine (rmay_s p _ hp).mono ?_; rintro e w' ⟨rfl, hs⟩; replace h0 := Stp.trans h0 hs; clear hs; rw [Hm.out])
      go_loop [6] (fun i => ∃ k : Nat, k ≤ p.length ∧ i = .int .i64 k ∧ Hid ((47 : UInt8) ∉ (p.take k).drop m)) (fun i => p.length - (intOf i).toNat)
      case atStart => exact ⟨0, by omega, rfl, Lib.hid (by simp)⟩
      case round =>
        obtain ⟨k, hk, rfl, Hk⟩ := hrel
        by_cases hlt : k < p.length
        · obtain ⟨c, hc⟩ : ∃ c, p[k]? = some c := ⟨_, List.getElem?_eq_getElem hlt⟩
          have ix := idx_l p k c (by omega) (by simpa using hc)
          have hd : p.drop k = c :: p.drop (k + 1) := by
            rw [List.drop_eq_getElem_cons hlt]
            congr 1
            exact (List.getElem?_eq_some_iff.1 hc).2
          have Hd := Lib.hid hd
          have Hc := Lib.hid hc
          clear hc hd
          have ht : p.take (k + 1) = p.take k ++ [c] := by rw [List.take_add_one, Hc.out]; rfl
          have Ht := Lib.hid ht
          clear ht
          by_cases h47 : c = 47
          · subst h47
            by_cases hmk : m ≤ k
            · have g3 : decide ((p.length : Int) - (k : Int) - 1 ≤ 100) = true := decide_eq_true (by omega)
              have hfc : firstCut (p.drop m) = some ((p.take k).drop m, p.drop (k + 1)) := by
                have e : p.drop m = (p.take k).drop m ++ 47 :: p.drop (k + 1) := by
                  rw [← Hd.out]
                  conv => lhs; rw [← List.take_append_drop k p]
                  rw [List.drop_append_of_le_length (by rw [List.length_take]; omega)]
                rw [e]
                exact firstCut_of Hk.out
              have hal : m + ((p.take k).drop m).length = k := by rw [List.length_drop, List.length_take]; omega
              have hO := HO.out
              rw [hfc] at hO
              simp only [hal] at hO
              by_cases h155 : k ≤ 155
              · rw [if_pos h155] at hO
                obtain ⟨e1, e2⟩ := splV_some hO
                rw [Hsv.out] at e1
                rw [Hsb.out] at e2
                subst e1 e2
                have g4 : decide ((155 : Int) < (k : Int)) = false := decide_eq_false (by omega)
                have hc1 := cut_h p k (by omega)
                have hc2 := cut_l p (k + 1) (by omega)
                rw [show ((k + 1 : Nat) : Int) = (k : Int) + 1 by omega] at hc2
                have i1 : k + 1 ≤ p.length := by omega
                clear hO hal hfc
                go_wp2_with fail
                go_quiet (fail)
                all_goals go_wp2_with fail
                all_goals go_ret3
                all_goals exact ⟨rfl, Stp.drewN h0 _⟩
              · rw [if_neg h155] at hO
                obtain ⟨e1, e2⟩ := splV_none hO
                rw [Hsv.out] at e1
                rw [Hsb.out] at e2
                subst e1 e2
                have g4 : decide ((155 : Int) < (k : Int)) = true := decide_eq_true (by omega)
                clear hO hal hfc
                go_wp2_with fail
                go_ret3
                exact ⟨rfl, h0⟩
            · have g3 : decide ((p.length : Int) - (k : Int) - 1 ≤ 100) = false := decide_eq_false (by omega)
              go_wp2_with fail
              go_round
              case rel => exact ⟨k + 1, by omega, by go_num, Lib.hid (by rw [List.drop_of_length_le (by rw [List.length_take]; omega)]; simp)⟩
              case measure => simp [intOf]; omega
          · have jc := not_slash h47
            have H47 := Lib.hid h47
            clear h47
            go_wp2_with fail
            go_round
            case rel =>
              refine ⟨k + 1, by omega, by go_num, Lib.hid ?_⟩
              rw [Ht.out]
              intro hmem
              rcases List.mem_append.1 (List.mem_of_mem_drop hmem) with h | h
              · by_cases hmk : m ≤ k
                · rw [List.drop_append_of_le_length (by rw [List.length_take]; omega)] at hmem
                  rcases List.mem_append.1 hmem with h | h
                  · exact Hk.out h
                  · exact H47.out (List.mem_singleton.1 h).symm
                · rw [List.drop_of_length_le (by rw [List.length_append, List.length_take, List.length_singleton]; omega)] at hmem
                  cases hmem
              · exact H47.out (List.mem_singleton.1 h).symm
            case measure => simp [intOf]; omega
        · obtain rfl : k = p.length := by omega
          have hfc : firstCut (p.drop m) = none := firstCut_one (by have := Hk.out; rwa [List.take_length] at this)
          have hO := HO.out
          rw [hfc] at hO
          obtain ⟨e1, e2⟩ := splV_none hO
          rw [Hsv.out] at e1
          rw [Hsb.out] at e2
          subst e1 e2
          clear hO hfc
          go_wp2_with fail
          go_ret3
          exact ⟨rfl, h0⟩
end Go.Proofs.Ytkhkjohkgeionaa.Path
