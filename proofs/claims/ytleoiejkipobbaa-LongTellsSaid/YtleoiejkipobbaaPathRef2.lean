/-
  Contracts of the document's answers for paths (package reelkeeperref02): Parts, Parent, Below, Join, Split, Texts: no statement is proved here.
-/
import Derived.Test.YtleoiejkipobbaaPathRef
namespace Go.Proofs.Ytleoiejkipobbaa.Path
open Go.RowKit Go.Shelf Go.Proofs.Ytleoiejkipobbaa.Base Go.Proofs.Ytleoiejkipobbaa.PathM

theorem prefB_take (q p : L) : prefB (q ++ [47]) p = (p.take (q.length + 1) == q ++ [47]) := by
  rw [prefB, Bool.eq_iff_iff, List.isPrefixOf_iff_prefix, beq_iff_eq, List.prefix_iff_eq_take, List.length_append, List.length_singleton]
  exact eq_comm
theorem prefB_short {q p : L} (h : ¬ q.length < p.length) : prefB (q ++ [47]) p = false := by
  rw [prefB, Bool.eq_false_iff]
  intro hp
  have := (List.isPrefixOf_iff_prefix.1 hp).length_le
  rw [List.length_append, List.length_singleton] at this
  omega

theorem firstCut_of {a b : L} (h : (47 : UInt8) ∉ a) : firstCut (a ++ 47 :: b) = some (a, b) := by
  induction a with
  | nil => rfl
  | cons c a ih =>
    simp only [List.mem_cons, not_or] at h
    rw [List.cons_append, firstCut, if_neg (fun e => h.1 e.symm), ih h.2]
theorem firstCut_one {a : L} (h : (47 : UInt8) ∉ a) : firstCut a = none := by
  induction a with
  | nil => rfl
  | cons c a ih =>
    simp only [List.mem_cons, not_or] at h
    rw [firstCut, if_neg (fun e => h.1 e.symm), ih h.2]

set_option maxRecDepth 100000 in
set_option maxHeartbeats 2000000 in
theorem rsplit_s (p : L) (w : World) (hp : p.length ≤ 9223372036854775807) :
    Calls Try.prog 64 #[.string ⟨p.toArray⟩] w fun e w' => e = .returned (.tuple #[.string ⟨(splV p).1.toArray⟩, .string ⟨(splV p).2.toArray⟩, .bool (splB p)]) ∧ Stp w w' := by
  have h0 := Stp.refl w
  cases hm : mayB p
  · obtain ⟨e1, e2⟩ := splV_none (p := p) (by unfold splitO; rw [if_neg (by simp [hm])])
    rw [e1, e2]
    have Hm := Lib.hid hm
    clear e1 e2 hm
    go_enter Try.func64, Try.ntmps64
    go_wp2_with (go_at_call 63; refine (rmay_s p _ hp).mono ?_; rintro e w' ⟨rfl, hs⟩; replace h0 := Stp.trans h0 hs; clear hs; rw [Hm.out])
    go_ret3
    exact ⟨rfl, h0⟩
  · have h300 := okSize hm
    by_cases hl : p.length ≤ 100
    · obtain ⟨e1, e2⟩ := splV_some (p := p) (a := []) (b := p) (by unfold splitO; rw [if_pos hm, if_pos hl])
      rw [e1, e2]
      have Hm := Lib.hid hm
      clear e1 e2 hm
      have g : decide ((p.length : Int) ≤ 100) = true := decide_eq_true (by omega)
      go_enter Try.func64, Try.ntmps64
      go_wp2_with (go_at_call 63; refine (rmay_s p _ hp).mono ?_; rintro e w' ⟨rfl, hs⟩; replace h0 := Stp.trans h0 hs; clear hs; rw [Hm.out])
      go_ret3
      exact ⟨rfl, h0⟩
    · have g : decide ((p.length : Int) ≤ 100) = false := decide_eq_false (by omega)
      obtain ⟨m, hm1⟩ : ∃ m, m = p.length - 101 := ⟨_, rfl⟩
      have hmm : m + 101 = p.length := by omega
      have hO : splitO p = match firstCut (p.drop m) with
        | some (a, b) => if m + a.length ≤ 155 then some (p.take (m + a.length), b) else none
        | none => none := by unfold splitO; rw [if_pos hm, if_neg hl, hm1]; cases firstCut (p.drop (p.length - 101)) <;> rfl
      have HO := Lib.hid hO
      obtain ⟨sv, hsv⟩ : ∃ sv, splV p = sv := ⟨_, rfl⟩
      obtain ⟨sb, hsb⟩ : ∃ sb, splB p = sb := ⟨_, rfl⟩
      rw [hsv, hsb]
      have Hsv := Lib.hid hsv
      have Hsb := Lib.hid hsb
      have Hm := Lib.hid hm
      clear hm hO hsv hsb hm1
      go_enter Try.func64, Try.ntmps64
      go_wp2_with (go_at_call 63; refine (rmay_s p _ hp).mono ?_; rintro e w' ⟨rfl, hs⟩; replace h0 := Stp.trans h0 hs; clear hs; rw [Hm.out])
      go_loop [6] (fun i => ∃ k : Nat, k ≤ p.length ∧ i = .int .i64 k ∧ Hid ((47 : UInt8) ∉ (p.take k).drop m)) (fun i => p.length - (intOf i).toNat)
      case atStart => exact ⟨0, by omega, rfl, Lib.hid (by simp)⟩
      case round =>
        obtain ⟨k, hk, rfl, Hk⟩ := hrel
        by_cases hlt : k < p.length
        · obtain ⟨c, hc⟩ : ∃ c, p[k]? = some c := ⟨_, List.getElem?_eq_getElem hlt⟩
          have ix := idx_l p k c (by omega) (by simpa using hc)
          have hd : p.drop k = c :: p.drop (k + 1) := by
            rw [List.drop_eq_getElem_cons hlt]
            congr 1
            exact (List.getElem?_eq_some_iff.1 hc).2
          have Hd := Lib.hid hd
          have Hc := Lib.hid hc
          clear hc hd
          have ht : p.take (k + 1) = p.take k ++ [c] := by rw [List.take_add_one, Hc.out]; rfl
          have Ht := Lib.hid ht
          clear ht
          by_cases h47 : c = 47
          · subst h47
            by_cases hmk : m ≤ k
            · have g3 : decide ((p.length : Int) - (k : Int) - 1 ≤ 100) = true := decide_eq_true (by omega)
              have hfc : firstCut (p.drop m) = some ((p.take k).drop m, p.drop (k + 1)) := by
                have e : p.drop m = (p.take k).drop m ++ 47 :: p.drop (k + 1) := by
                  rw [← Hd.out]
                  conv => lhs; rw [← List.take_append_drop k p]
                  rw [List.drop_append_of_le_length (by rw [List.length_take]; omega)]
                rw [e]
                exact firstCut_of Hk.out
              have hal : m + ((p.take k).drop m).length = k := by rw [List.length_drop, List.length_take]; omega
              have hO := HO.out
              rw [hfc] at hO
              simp only [hal] at hO
              by_cases h155 : k ≤ 155
              · rw [if_pos h155] at hO
                obtain ⟨e1, e2⟩ := splV_some hO
                rw [Hsv.out] at e1
                rw [Hsb.out] at e2
                subst e1 e2
                have g4 : decide ((155 : Int) < (k : Int)) = false := decide_eq_false (by omega)
                have hc1 := cut_h p k (by omega)
                have hc2 := cut_l p (k + 1) (by omega)
                rw [show ((k + 1 : Nat) : Int) = (k : Int) + 1 by omega] at hc2
                have i1 : k + 1 ≤ p.length := by omega
                clear hO hal hfc
                go_wp2_with fail
                go_quiet (fail)
                all_goals go_wp2_with fail
                all_goals go_ret3
                all_goals exact ⟨rfl, Stp.drewN h0 _⟩
              · rw [if_neg h155] at hO
                obtain ⟨e1, e2⟩ := splV_none hO
                rw [Hsv.out] at e1
                rw [Hsb.out] at e2
                subst e1 e2
                have g4 : decide ((155 : Int) < (k : Int)) = true := decide_eq_true (by omega)
                clear hO hal hfc
                go_wp2_with fail
                go_ret3
                exact ⟨rfl, h0⟩
            · have g3 : decide ((p.length : Int) - (k : Int) - 1 ≤ 100) = false := decide_eq_false (by omega)
              go_wp2_with fail
              go_round
              case rel => exact ⟨k + 1, by omega, by go_num, Lib.hid (by rw [List.drop_of_length_le (by rw [List.length_take]; omega)]; simp)⟩
              case measure => simp [intOf]; omega
          · have jc := not_slash h47
            have H47 := Lib.hid h47
            clear h47
            go_wp2_with fail
            go_round
            case rel =>
              refine ⟨k + 1, by omega, by go_num, Lib.hid ?_⟩
              rw [Ht.out]
              intro hmem
              rcases List.mem_append.1 (List.mem_of_mem_drop hmem) with h | h
              · by_cases hmk : m ≤ k
                · rw [List.drop_append_of_le_length (by rw [List.length_take]; omega)] at hmem
                  rcases List.mem_append.1 hmem with h | h
                  · exact Hk.out h
                  · exact H47.out (List.mem_singleton.1 h).symm
                · rw [List.drop_of_length_le (by rw [List.length_append, List.length_take, List.length_singleton]; omega)] at hmem
                  cases hmem
              · exact H47.out (List.mem_singleton.1 h).symm
            case measure => simp [intOf]; omega
        · obtain rfl : k = p.length := by omega
          have hfc : firstCut (p.drop m) = none := firstCut_one (by have := Hk.out; rwa [List.take_length] at this)
          have hO := HO.out
          rw [hfc] at hO
          obtain ⟨e1, e2⟩ := splV_none hO
          rw [Hsv.out] at e1
          rw [Hsb.out] at e2
          subst e1 e2
          clear hO hfc
          go_wp2_with fail
          go_ret3
          exact ⟨rfl, h0⟩
end Go.Proofs.Ytleoiejkipobbaa.Path
