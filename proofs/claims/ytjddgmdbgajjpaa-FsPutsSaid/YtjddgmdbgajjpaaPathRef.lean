/-
  Contracts of the document's answers for paths (package reelkeeperref02): no statement is proved here.
  Contracts of the document's answers for paths (package reelkeeperref02): Parts, Parent, Below, Join, Split, Texts: no statement is proved here.
-/
import Derived.Test.YtjddgmdbgajjpaaPathK
namespace Go.Proofs.Ytjddgmdbgajjpaa.Path
open Go.RowKit Go.Shelf Go.Proofs.Ytjddgmdbgajjpaa.Base Go.Proofs.Ytjddgmdbgajjpaa.PathM

/-- A text ahead of the first part. -/
def addF (s : L) : List L → List L
  | [] => [s]
  | p :: ps => (s ++ p) :: ps
theorem addF_nil {xs : List L} (h : xs ≠ []) : addF [] xs = xs := by
  cases xs with
  | nil => exact absurd rfl h
  | cons p ps => rfl
theorem addF_slash (s r : L) : addF s (pcs (47 :: r)) = [s] ++ addF [] (pcs r) := by rw [pcs_slash, addF_nil (pcs_ne r)]; simp [addF]
theorem addF_step {c : UInt8} (h : c ≠ 47) (s r : L) : addF s (pcs (c :: r)) = addF (s ++ [c]) (pcs r) := by
  obtain ⟨p, ps, h1, h2⟩ := pcs_cons h r
  rw [h1, h2]
  simp [addF]

theorem cut_lh (p : L) (k : Nat) (c : UInt8) (h : p[k]? = some c) (w : World) : (Instr.slice 9 (.string ⟨p.toArray⟩) (some (.int .i64 (k : Int))) (some (.int .i64 ((k : Int) + 1))) none).run Try.prog w = .ok (.string ⟨#[c]⟩) w := by
  obtain ⟨hl, hc⟩ := List.getElem?_eq_some_iff.1 h
  have hs : (ByteArray.mk p.toArray).size = p.length := by simp [ByteArray.size]
  rw [run_slice_string (P := Try.prog) w 9 _ .i64 .i64 k ((k : Int) + 1) Try.underlying9 (by omega) (by omega) (by rw [hs]; omega)]
  have e : (ByteArray.mk p.toArray).extract k (k + 1) = ⟨#[c]⟩ := by
    have e2 : ((ByteArray.mk p.toArray).extract k (k + 1)).data.toList = [c] := by
      rw [ByteArray.data_extract, Array.toList_extract, List.extract_eq_take_drop, List.drop_eq_getElem_cons hl, hc]
      simp
    exact ba_eq e2
  rw [Int.toNat_natCast, show ((k : Int) + 1).toNat = k + 1 by omega, e]

set_option maxHeartbeats 2000000 in
set_option maxRecDepth 100000 in
theorem pieces_own (p : L) (w : World) (hp : p.length ≤ 300) :
    Calls Try.prog 76 #[.string ⟨p.toArray⟩] w fun e w' => ∃ v, e = .returned v ∧ Base.Own w' w.heap.size 9 v (ss (pcs p)) ∧ Below w.heap.size w w' := by
  have hpl := pcs_length_le p
  go_enter Try.func76, Try.ntmps76
  go_wp2_with fail
  go_loopw [3, 4, 5] (fun v t i wr => ∃ (k : Nat) (out : List L) (s : L), k ≤ p.length ∧ i = .int .i64 k ∧ t = .string ⟨s.toArray⟩ ∧ s.length ≤ k ∧ out.length ≤ k ∧ Hid (pcs p = out ++ addF s (pcs (p.drop k))) ∧
      Hid (Base.Own wr w.heap.size 9 v (ss out)) ∧ Hid (Below w.heap.size w wr))
    (fun _ _ i _ => p.length - (intOf i).toNat)
  case atStart => exact ⟨0, [], [], by omega, rfl, rfl, by simp, by simp, Lib.hid (by rw [addF_nil (pcs_ne _)]; simp), Lib.hid (Base.Own.nil _ _ _), Lib.hid (Below.refl _ _)⟩
  case round =>
    obtain ⟨k, out, s, hk, rfl, rfl, hsl, hol, Hp, Hv, Hb⟩ := hrel
    have hxl : (ss out).length ≤ 301 := by rw [ss_length]; omega
    by_cases hlt : k < p.length
    · obtain ⟨c, hc⟩ : ∃ c, p[k]? = some c := ⟨_, List.getElem?_eq_getElem hlt⟩
      have hd : p.drop k = c :: p.drop (k + 1) := by
        rw [List.drop_eq_getElem_cons hlt]
        congr 1
        exact (List.getElem?_eq_some_iff.1 hc).2
      rw [hd] at Hp
      have ix := idx_l p k c (by omega) (by simpa using hc)
      by_cases h47 : c = 47
      · subst h47
        clear hc hd
        go_wp2_with (at_builtin; refine wpList_append_rd (P := Try.prog) _ rfl (.tmp 16) (.tmp 18) 79 rfl w.heap.size 9 (.string ⟨#[]⟩) 16 Try.underlying79 str_info rfl _ (ss out) rfl (Hv.out.alloc _) _ _ [.string ⟨s.toArray⟩] rfl (rd_lit _ _ _) (by simp [Value.oneCell']) ?h1 ?h2 ?h3 ?_)
        case h1 => simp only [List.length_cons, List.length_nil]; unfold maxLen; omega
        case h2 => simp only [List.length_cons, List.length_nil]; omega
        case h3 => have := Hb.out.size; simp; omega
        intro v1 w1 hv1 hg1 _
        have Hv1 : Hid (Base.Own w1 w.heap.size 9 v1 (ss (out ++ [s]))) := Lib.hid (by rw [ss_append]; exact hv1)
        have Hb1 : Hid (Below w.heap.size w w1) := Lib.hid ((Hb.out.alloc Hb.out.size _).grown hg1 (by simp; exact Nat.le_succ_of_le Hb.out.size) (fun j hj => (Hv.out.lt j hj).1))
        clear hv1 hg1 Hv Hb
        go_wp2_with fail
        go_roundw
        case rel => exact ⟨k + 1, out ++ [s], [], by omega, by go_num, rfl, by simp, by simp; omega, Lib.hid (by rw [Hp.out, addF_slash, List.append_assoc]), Hv1, Hb1⟩
        case measure => simp [intOf]; omega
      · have hcut := cut_lh p k c hc
        have hadd := add_ll s [c] (by simp; omega)
        have jc := not_slash h47
        have H47 := Lib.hid h47
        clear h47 hc hd
        go_wp2_with fail
        go_roundw
        case rel => exact ⟨k + 1, out, s ++ [c], by omega, by go_num, rfl, by simp; omega, by omega, Lib.hid (by rw [Hp.out, addF_step H47.out]), Hv, Hb⟩
        case measure => simp [intOf]; omega
    · obtain rfl : k = p.length := by omega
      have Hq : Hid (pcs p = out ++ [s]) := Lib.hid (by rw [Hp.out, List.drop_length]; simp [pcs, addF])
      clear Hp
      go_wp2_with (at_builtin; refine wpList_append_rd (P := Try.prog) _ rfl (.tmp 27) (.tmp 29) 79 rfl w.heap.size 9 (.string ⟨#[]⟩) 16 Try.underlying79 str_info rfl _ (ss out) rfl (Hv.out.alloc _) _ _ [.string ⟨s.toArray⟩] rfl (rd_lit _ _ _) (by simp [Value.oneCell']) ?h4 ?h5 ?h6 ?_)
      case h4 => simp only [List.length_cons, List.length_nil]; unfold maxLen; omega
      case h5 => simp only [List.length_cons, List.length_nil]; omega
      case h6 => have := Hb.out.size; simp; omega
      intro v1 w1 hv1 hg1 _
      have Hv1 : Hid (Base.Own w1 w.heap.size 9 v1 (ss (out ++ [s]))) := Lib.hid (by rw [ss_append]; exact hv1)
      have Hb1 : Hid (Below w.heap.size w w1) := Lib.hid ((Hb.out.alloc Hb.out.size _).grown hg1 (by simp; exact Nat.le_succ_of_le Hb.out.size) (fun j hj => (Hv.out.lt j hj).1))
      clear hv1 hg1 Hv Hb
      go_wp2_with fail
      go_ret
      exact ⟨v1, rfl, by rw [Hq.out]; exact Hv1.out, Hb1.out⟩

theorem pieces_s (p : L) (w : World) (hp : p.length ≤ 300) :
    Calls Try.prog 76 #[.string ⟨p.toArray⟩] w fun e w' => ∃ A cap, e = .returned (.slice A (pcs p).length cap) ∧ RdA w' A cap (ss (pcs p)) ∧ Stp w w' := by
  refine (pieces_own p w hp).mono ?_
  rintro e w' ⟨v, rfl, hv, hb⟩
  obtain ⟨A, cap, rfl, hA⟩ := RdA.of hv.rd
  exact ⟨A, cap, by rw [ss_length], hA, hb⟩

set_option maxHeartbeats 2000000 in
set_option maxRecDepth 100000 in
theorem rmay_s (p : L) (w : World) (hp : p.length ≤ 9223372036854775807) :
    Calls Try.prog 58 #[.string ⟨p.toArray⟩] w fun e w' => e = .returned (.bool (mayB p)) ∧ Stp w w' := by
  have hs0 := Stp.refl w
  by_cases hlen : 1 ≤ p.length ∧ p.length ≤ 300
  · obtain ⟨hl1, hl2⟩ := hlen
    obtain ⟨r, hr⟩ : ∃ r, mayB p = r := ⟨_, rfl⟩
    rw [hr]
    have Hr := Lib.hid hr
    have hpl := pcs_length_le p
    have g1 : decide ((p.length : Int) < 1) = false := decide_eq_false (by omega)
    have g2 : decide ((300 : Int) < (p.length : Int)) = false := decide_eq_false (by omega)
    clear hr
    go_enter Try.func58, Try.ntmps58
    go_wp2_with fail
    go_loop [3] (fun i => ∃ k : Nat, k ≤ p.length ∧ i = .int .i64 k ∧ Hid ((0 : UInt8) ∉ p.take k)) (fun i => p.length - (intOf i).toNat)
    case atStart => exact ⟨0, by omega, rfl, Lib.hid (by simp)⟩
    case round =>
      obtain ⟨k, hk, rfl, Hk⟩ := hrel
      by_cases hlt : k < p.length
      · obtain ⟨c, hc⟩ : ∃ c, p[k]? = some c := ⟨_, List.getElem?_eq_getElem hlt⟩
        have ix := idx_l p k c (by omega) (by simpa using hc)
        have Hc := Lib.hid hc
        clear hc
        by_cases h0 : c = 0
        · have hcc : ((c.toNat : Int) == 0) = true := by rw [h0]; rfl
          have H0 := Lib.hid h0
          clear h0
          go_wp2_with fail
          go_ret
          refine ⟨?_, hs0⟩
          have e : r = false := by
            rw [← Hr.out, Bool.eq_false_iff]
            intro hm
            refine (mayB_iff.1 hm).2.2.1 ?_
            rw [← H0.out]
            exact List.mem_of_getElem? Hc.out
          rw [e]
          rfl
        · have hcc : ((c.toNat : Int) == 0) = false := by
            rw [beq_eq_false_iff_ne]
            intro h'
            exact h0 (UInt8.toNat_inj.1 (by show c.toNat = 0; omega))
          have H0 := Lib.hid h0
          clear h0
          go_wp2_with fail
          go_round
          case rel =>
            refine ⟨k + 1, by omega, by go_num, Lib.hid ?_⟩
            rw [List.take_add_one, List.mem_append, Hc.out]
            simp only [Option.toList_some, List.mem_singleton, not_or]
            exact ⟨Hk.out, fun e => H0.out e.symm⟩
          case measure => simp [intOf]; omega
      · obtain rfl : k = p.length := by omega
        have H0 : Hid ((0 : UInt8) ∉ p) := Lib.hid (by have := Hk.out; rwa [List.take_length] at this)
        clear Hk
        go_wp2_with fail
        refine (pieces_s p _ hl2).mono ?_
        rintro e w1 ⟨A, cap, rfl, hr, hs⟩
        obtain ⟨b, off, rfl, _⟩ := hr.at_ (j := 0) (by rw [ss_length]; exact pcs_pos p)
        replace hs0 := Stp.trans hs0 hs
        obtain ⟨n, hn⟩ : ∃ n, n = (pcs p).length := ⟨_, rfl⟩
        rw [← hn]
        have hn2 : n ≤ 301 := by omega
        have Hn := Lib.hid hn
        clear hs hn
        go_wp2_with fail
        go_loop [5] (fun i => ∃ k : Nat, k ≤ n ∧ i = .int .i64 k ∧ Hid (((pcs p).take k).all okP = true)) (fun i => n - (intOf i).toNat)
        case atStart => exact ⟨0, by omega, rfl, Lib.hid (by simp)⟩
        case round =>
          obtain ⟨j, hj, rfl, Hj⟩ := hrel
          by_cases hjt : j < n
          · have hjt' : j < (pcs p).length := by rw [← Hn.out]; exact hjt
            obtain ⟨y, hy⟩ : ∃ y, (pcs p)[j] = y := ⟨_, rfl⟩
            have hcell := rdA_get hr (by rw [ss_at hjt', hy])
            have hstep : ((pcs p).take (j + 1)).all okP = okP y := by
              rw [List.take_succ_eq_append_getElem hjt', List.all_append, Hj.out, hy]; simp
            have hmem : y ∈ pcs p := by rw [← hy]; exact List.getElem_mem _
            have Hstep := Lib.hid hstep
            have Hmem := Lib.hid hmem
            cases hok : okP y
            · have Hok := Lib.hid hok
              have e : r = false := by
                rw [← Hr.out, Bool.eq_false_iff]
                intro hm
                have := (mayB_iff.1 hm).2.2.2 y hmem
                rw [hok] at this
                cases this
              have hyy : y = [] ∨ y = [46] ∨ y = [46, 46] := by
                simp only [okP, Bool.and_eq_false_iff, Bool.not_eq_false', beq_iff_eq] at hok
                exact hok
              subst e
              clear hstep hmem hok hy hjt'
              rcases hyy with rfl | rfl | rfl
              all_goals
                go_wp2_with fail
                go_ret
                exact ⟨rfl, hs0⟩
            · obtain ⟨x1, x2, x3⟩ := okP_facts hok
              have Hok := Lib.hid hok
              clear hstep hmem hok hy hjt'
              go_wp2_with fail
              go_round
              case rel => exact ⟨j + 1, by omega, by go_num, Lib.hid (by rw [Hstep.out, Hok.out])⟩
              case measure => simp [intOf]; omega
          · obtain rfl : j = n := by omega
            have e : r = true := by
              rw [← Hr.out]
              refine mayB_iff.2 ⟨hl1, hl2, H0.out, ?_⟩
              have h := Hj.out
              rw [List.take_of_length_le (by rw [← Hn.out]; exact Nat.le_refl _)] at h
              exact List.all_eq_true.1 h
            subst e
            go_wp2_with fail
            go_ret
            exact ⟨rfl, hs0⟩
  · have hm : mayB p = false := by
      rw [Bool.eq_false_iff]
      intro h
      have := mayB_iff.1 h
      omega
    rw [hm]
    clear hm
    have key : decide ((p.length : Int) < 1) = true ∨ (decide ((p.length : Int) < 1) = false ∧ decide ((300 : Int) < (p.length : Int)) = true) := by
      simp only [decide_eq_true_eq, decide_eq_false_iff_not]
      omega
    clear hlen
    rcases key with g1 | ⟨g1, g2⟩
    all_goals
      go_enter Try.func58, Try.ntmps58
      go_wp2_with fail
      go_ret
      exact ⟨rfl, hs0⟩
end Go.Proofs.Ytjddgmdbgajjpaa.Path

namespace Go.Proofs.Ytjddgmdbgajjpaa.Path
open Go.RowKit Go.Shelf Go.Proofs.Ytjddgmdbgajjpaa.Base Go.Proofs.Ytjddgmdbgajjpaa.PathM

set_option maxRecDepth 100000 in
theorem rparts_s (p : L) (w : World) (hp : p.length ≤ 9223372036854775807) :
    Calls Try.prog 77 #[.string ⟨p.toArray⟩] w fun e w' => ∃ A cap, e = .returned (.slice A (partV p).length cap) ∧ RdA w' A cap (ss (partV p)) ∧ Stp w w' := by
  have h0 := Stp.refl w
  cases hm : mayB p
  · rw [partV_no hm]
    have Hm := Lib.hid hm
    clear hm
    go_enter Try.func77, Try.ntmps77
    go_wp2_with (go_at_call 58; refine (rmay_s p _ hp).mono ?_; rintro e w' ⟨rfl, hs⟩; replace h0 := Stp.trans h0 hs; clear hs; rw [Hm.out])
    go_ret
    exact ⟨none, 0, rfl, Rd.nil _ _, h0⟩
  · rw [partV_yes hm]
    have hl := okSize hm
    have Hm := Lib.hid hm
    clear hm
    go_enter Try.func77, Try.ntmps77
    go_wp2_with (go_at_call 58; refine (rmay_s p _ hp).mono ?_; rintro e w' ⟨rfl, hs⟩; replace h0 := Stp.trans h0 hs; clear hs; rw [Hm.out])
    refine (pieces_s p _ hl).mono ?_
    rintro e w1 ⟨A, cap, rfl, hr, hs⟩
    replace h0 := Stp.trans h0 hs
    clear hs
    go_wp2_with fail
    go_ret
    exact ⟨A, cap, rfl, hr, h0⟩

set_option maxRecDepth 100000 in
set_option maxHeartbeats 1000000 in
theorem rparent_s (p : L) (w : World) (hp : p.length ≤ 9223372036854775807) :
    Calls Try.prog 60 #[.string ⟨p.toArray⟩] w fun e w' => e = .returned (.tuple #[.string ⟨(parV p).toArray⟩, .bool (parB p)]) ∧ Stp w w' := by
  have h0 := Stp.refl w
  obtain ⟨n, hn⟩ : ∃ n, n = (partV p).length := ⟨_, rfl⟩
  have hn2 := partV_len p
  rw [← hn] at hn2
  cases hb : parB p
  · have e1 : parV p = [] ∧ n ≤ 1 := by
      cases hm : mayB p
      · exact ⟨by unfold parV; rw [if_neg (by simp [hm])], by rw [hn, partV_no hm]; simp⟩
      · obtain ⟨f1, f2⟩ := par_no hm hb
        exact ⟨f1, by rw [hn, partV_yes hm, f2]; exact Nat.le_refl _⟩
    rw [e1.1]
    have g := e1.2
    have g1 : decide ((n : Int) < 2) = true := decide_eq_true (by omega)
    have Hn := Lib.hid hn
    clear e1 hn hb
    go_enter Try.func60, Try.ntmps60
    go_wp2_with (go_at_call 77; refine (rparts_s p _ hp).mono ?_; rintro e w' ⟨A, cap, rfl, hr, hs⟩; replace h0 := Stp.trans h0 hs; clear hs hr; rw [← Hn.out])
    go_ret2
    exact ⟨rfl, h0⟩
  · have hm : mayB p = true := (par_yes hb).1
    have hl := okSize hm
    match hc : lastCut p with
    | none => exact absurd hb (by unfold parB; rw [hm, hc]; simp)
    | some (a, b) =>
      obtain ⟨q1, q2⟩ := lastCut_some hc
      have hlen : p.length = a.length + 1 + b.length := by
        have h := congrArg List.length q1
        rw [List.length_append, List.length_cons] at h
        omega
      have e1 : parV p = a := by unfold parV; rw [if_pos hm, hc]
      have hpc : partV p = pcs a ++ [b] := by rw [partV_yes hm, pcs_lastCut hc]
      obtain ⟨m, hm1⟩ : ∃ m, m = (pcs a).length := ⟨_, rfl⟩
      have hmp := pcs_pos a
      rw [← hm1] at hmp
      have hnm : n = m + 1 := by rw [hn, hpc, hm1]; simp
      have Hx : Hid ((ss (partV p))[m]? = some (.string ⟨b.toArray⟩)) := Lib.hid (by rw [hpc, ss_append, hm1, ← ss_length, List.getElem?_append_right (Nat.le_refl _), Nat.sub_self]; rfl)
      have He : Hid ((ByteArray.mk p.toArray).extract 0 a.length = ⟨a.toArray⟩) := Lib.hid (ba_eq (by
        rw [extract_take]
        show p.take a.length = a
        conv => lhs; rw [q1]
        exact List.take_left))
      rw [e1]
      have Hn := Lib.hid hn
      clear e1 hpc hn hb hm hc q1 q2 hm1
      subst hnm
      go_enter Try.func60, Try.ntmps60
      go_wp2_with (go_at_call 77; refine (rparts_s p _ hp).mono ?_; rintro e w' ⟨A, cap, rfl, hr, hs⟩; replace h0 := Stp.trans h0 hs; rw [← Hn.out]; obtain ⟨bk, off, rfl, hrd⟩ := hr.at_ (j := m) (by rw [ss_length, ← Hn.out]; omega); have hcell := hrd m _ Hx.out; clear hs hr hrd)
      go_ret2
      exact ⟨by rw [← He.out]; rfl, h0⟩

theorem prefB_take (q p : L) : prefB (q ++ [47]) p = (p.take (q.length + 1) == q ++ [47]) := by
  rw [prefB, Bool.eq_iff_iff, List.isPrefixOf_iff_prefix, beq_iff_eq, List.prefix_iff_eq_take, List.length_append, List.length_singleton]
  exact eq_comm
theorem prefB_short {q p : L} (h : ¬ q.length < p.length) : prefB (q ++ [47]) p = false := by
  rw [prefB, Bool.eq_false_iff]
  intro hp
  have := (List.isPrefixOf_iff_prefix.1 hp).length_le
  rw [List.length_append, List.length_singleton] at this
  omega

theorem firstCut_of {a b : L} (h : (47 : UInt8) ∉ a) : firstCut (a ++ 47 :: b) = some (a, b) := by
  induction a with
  | nil => rfl
  | cons c a ih =>
    simp only [List.mem_cons, not_or] at h
    rw [List.cons_append, firstCut, if_neg (fun e => h.1 e.symm), ih h.2]
theorem firstCut_one {a : L} (h : (47 : UInt8) ∉ a) : firstCut a = none := by
  induction a with
  | nil => rfl
  | cons c a ih =>
    simp only [List.mem_cons, not_or] at h
    rw [firstCut, if_neg (fun e => h.1 e.symm), ih h.2]

end Go.Proofs.Ytjddgmdbgajjpaa.Path

