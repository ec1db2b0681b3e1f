/-
  The contract of package head's May: no statement is proved here.
-/
import Derived.Test.YtihigbaaajmjlaaHeadMay
namespace Go.Proofs.Ytihigbaaajmjlaa.Head
open Go.RowKit Go.Proofs.Ytihigbaaajmjlaa.Base Go.Proofs.Ytihigbaaajmjlaa.NumM Go.Proofs.Ytihigbaaajmjlaa.Num

theorem okT_false {s : L} {m : Nat} (h : m < s.length) : okT s m = false := by unfold okT; simp; omega
theorem okT_mem {s : L} {m : Nat} (h : (0 : UInt8) ∈ s) : okT s m = false := by unfold okT; simp [h]
theorem okT_true {s : L} {m : Nat} (h : ¬ m < s.length) (h0 : (0 : UInt8) ∉ s) : okT s m = true := by unfold okT; simp [h0]; omega
theorem all_step {α : Type} {l : List α} {k : Nat} {x : α} {f : α → Bool} (hx : l[k]? = some x) (h : (l.take k).all f = true) (hf : f x = true) : (l.take (k + 1)).all f = true := by
  rw [List.take_add_one, hx, List.all_append, h]
  simp [hf]
theorem all_no {α : Type} {l : List α} {k : Nat} {x : α} {f : α → Bool} (hx : l[k]? = some x) (hf : f x = false) : l.all f = false := by
  rw [Bool.eq_false_iff]
  intro h
  rw [List.all_eq_true] at h
  rw [h x (List.mem_of_getElem? hx)] at hf
  cases hf
theorem may_early {h : Hd} (hn : h.name = [] ∨ typs.contains h.ty = false ∨ elseZ h = false) : mayH h = false := by
  unfold mayH
  rcases hn with e | e | e
  · simp [e]
  · rw [e]; simp
  · rw [e]; simp
theorem may_late {h : Hd} (h1 : h.name ≠ []) (h2 : typs.contains h.ty = true) (h3 : elseZ h = true) : mayH h = ((txo h).all (fun p => okT p.1 p.2) && (nuo h).all fun p => putOk p.1 p.2) := by
  unfold mayH
  rw [h2, h3, txtsOk_is, numsOk_is]
  have : h.name.isEmpty = false := by cases hq : h.name <;> simp_all
  simp [this]

theorem index0_s (s : L) (i : Int) (hi : Lib.indexByte s 0 = i) (w : World) : Calls Try.prog 49 #[.string ⟨s.toArray⟩, .int .u8 0] w fun e w' => e = .returned (.int .i64 i) ∧ w' = w := by
  refine (indexByte_l s 0 w).mono ?_
  rintro e w' ⟨rfl, rfl⟩
  rw [show Lib.indexByte s (0 : Int).toNat.toUInt8 = i from hi]
  exact ⟨rfl, rfl⟩

set_option maxHeartbeats 4000000 in
set_option maxRecDepth 100000 in
theorem may_any (h : Hd) (hs : SmallH h) (w : World) :
    Calls Try.prog 24 #[hv h] w fun e w' => e = .returned (.bool (mayH h)) ∧ Stp w w' := by
  have h0 := Stp.refl w
  obtain ⟨ht, hht⟩ : ∃ b, typs.contains h.ty = b := ⟨_, rfl⟩
  obtain ⟨hz, hhz⟩ : ∃ b, elseZ h = b := ⟨_, rfl⟩
  by_cases hearly : h.name = [] ∨ ht = false ∨ hz = false
  · rw [may_early (by rw [hht, hhz]; exact hearly)]
    have Ht := Lib.hid hht
    have Hz := Lib.hid hhz
    have key : (h.name == []) = true ∨ ((h.name == []) = false ∧ ht = false) ∨ ((h.name == []) = false ∧ ht = true ∧ hz = false) := by
      cases hq : h.name <;> cases ht <;> cases hz <;> simp_all
    clear hearly hht hhz hs
    rcases key with k1 | ⟨k1, rfl⟩ | ⟨k1, rfl, rfl⟩
    all_goals go_enter Try.func24, Try.ntmps24
    all_goals go_wp2_with (first
      | (go_at_call 46; refine (isType_s _ _).mono ?_; rintro e w' ⟨rfl, rfl⟩; rw [Ht.out])
      | (go_at_call 47; refine (elseZ_s h _).mono ?_; rintro e w' ⟨rfl, hs'⟩; have H9 := Lib.hid hs'; clear hs'; rw [Hz.out]))
    · go_ret; exact ⟨rfl, Stp.alloc h0 _⟩
    · go_ret; exact ⟨rfl, Stp.alloc h0 _⟩
    · go_ret; exact ⟨rfl, Stp.trans (Stp.alloc h0 _) H9.out⟩
  · have k1 : (h.name == []) = false := by cases hq : h.name <;> simp_all
    obtain rfl : ht = true := by cases ht <;> simp_all
    obtain rfl : hz = true := by cases hz <;> simp_all
    have Hl := Lib.hid (may_late (fun e => hearly (.inl e)) hht hhz)
    obtain ⟨r, hr⟩ : ∃ r, mayH h = r := ⟨_, rfl⟩
    rw [hr] at Hl ⊢
    have Ht := Lib.hid hht
    have Hz := Lib.hid hhz
    have Hs := Lib.hid hs
    obtain ⟨n, hn⟩ : ∃ n, (txR h).length = n := ⟨_, rfl⟩
    have hn9 : n ≤ 9 := by rw [← hn]; unfold txR txM txN; split <;> simp
    have Hn := Lib.hid hn
    obtain ⟨m, hm⟩ : ∃ m, (nuR h).length = m := ⟨_, rfl⟩
    have hm9 : m ≤ 9 := by rw [← hm]; unfold nuR nuM nuN; split <;> simp
    have Hm := Lib.hid hm
    have Hb0 := Lib.hid (Blk.new w 27 (hcells h))
    obtain ⟨hb, hhb⟩ : ∃ b, w.heap.size = b := ⟨_, rfl⟩
    clear hearly hht hhz hs hr hn hm
    go_enter Try.func24, Try.ntmps24
    go_wp2_with (first
      | (go_at_call 46; refine (isType_s _ _).mono ?_; rintro e w' ⟨rfl, rfl⟩; rw [Ht.out])
      | (go_at_call 47; refine (elseZ_s h _).mono ?_; rintro e w1 ⟨rfl, hs'⟩; have Hb1 := Lib.hid (Hb0.out.keep hs' Hb0.out.lt); have H1 := Lib.hid (Stp.trans (Stp.alloc h0 (.cells (hcells h) 27)) hs'); clear hs' Hb0; rw [Hz.out])
      | (go_at_call 48; rw [hhb] at Hb1; refine (texts_any h hb _ Hb1.out).mono ?_; rintro e w2 ⟨g, cap, rfl, hg, hr2, hs'⟩; rw [Hn.out]; have Hb2 := Lib.hid (Hb1.out.keep hs' Hb1.out.lt); have H2 := Lib.hid (Stp.trans H1.out hs'); have Hr2 := Lib.hid hr2; clear hs' hr2 hg Hb1 H1))
    have hhs : hb < w2.heap.size := Hb2.out.lt
    go_loopw [25] (fun i wr => ∃ k : Nat, k ≤ n ∧ i = .int .i64 (k : Int) ∧ Hid (Blk wr hb 27 (hcells h)) ∧ Hid (RdC wr g (rowsC hb (txR h))) ∧ Hid (Stp w wr) ∧ Hid (((txo h).take k).all (fun p => okT p.1 p.2) = true)) (fun i _ => n - (intOf i).toNat)
    case atStart => exact ⟨0, by omega, rfl, Hb2, Hr2, H2, Lib.hid (by simp)⟩
    case round =>
      obtain ⟨k, hk, rfl, Ha, Hr, Hw, Hk⟩ := hrel
      clear Hb2 Hr2 H2 hhs
      by_cases hlt : k < n
      · obtain ⟨q, mo, f, s, e1, e2, e3, e4, e5, e6⟩ := txR_at h k (by rw [Hn.out]; exact hlt)
        obtain ⟨q1, q2, q3⟩ := rowsC_at hb _ k _ e1
        have c1 := Hr.out.2 _ _ q1
        have c2 := Hr.out.2 _ _ q2
        have c3 := Hr.out.2 _ _ q3
        have c4 : wr.cell? ⟨hb, f, none⟩ = some (.string ⟨s.toArray⟩) := by rw [Ha.out.cell]; exact e4
        have hlw := Hr.out.1
        have hhs := Ha.out.lt
        have E2 := Lib.hid e2
        clear q1 q2 q3 e1 e2 e3 e4 e5 e6
        simp only at c1 c2 c3
        have key : decide (mo < s.length) = true ∨ (decide (mo < s.length) = false ∧ (0 : UInt8) ∈ s) ∨ (decide (mo < s.length) = false ∧ (0 : UInt8) ∉ s) := by
          by_cases h1 : mo < s.length
          · exact .inl (by simpa using h1)
          · by_cases h2 : (0 : UInt8) ∈ s
            · exact .inr (.inl ⟨by simpa using h1, h2⟩)
            · exact .inr (.inr ⟨by simpa using h1, h2⟩)
        go_wp2_with fail
        generalize hwq : wr.alloc _ = wq
        have d1 : wq.cell? ⟨wr.heap.size, 1, none⟩ = some (.int .i64 (mo : Int)) := by rw [← hwq, World.cell?_alloc_new]; rfl
        have d2 : wq.cell? ⟨wr.heap.size, 2, none⟩ = some (.pointer (some ⟨hb, f, none⟩)) := by rw [← hwq, World.cell?_alloc_new]; rfl
        have d4 : wq.cell? ⟨hb, f, none⟩ = some (.string ⟨s.toArray⟩) := by rw [← hwq, World.cell?_alloc_old]; exact c4; exact Nat.ne_of_lt hhs
        have Ha2 := Lib.hid (show Blk wq hb 27 (hcells h) by rw [← hwq]; exact Ha.out.alloc _)
        have Hr2 := Lib.hid (show RdC wq g (rowsC hb (txR h)) by rw [← hwq]; exact Hr.out.grown (World.grownBy_alloc wr _ none) (by simp))
        have Hw2 := Lib.hid (show Stp w wq by rw [← hwq]; exact Stp.alloc Hw.out _)
        clear hwq c1 c2 c3 c4 Ha Hr Hw
        rcases key with g1 | ⟨g1, g2⟩ | ⟨g1, g2⟩
        · go_quiet (fail)
          go_wp2_with fail
          go_ret
          refine ⟨?_, Stp.drewN Hw2.out _⟩
          rw [Hl.out, all_no E2.out (okT_false (by simpa using g1))]
          rfl
        · have Hi := Lib.hid (show Lib.indexByte s 0 = ((upto s).length : Int) by rw [indexByte_upto, if_pos g2])
          have G2 := Lib.hid g2
          clear g2
          generalize (upto s).length = u at Hi
          go_quiet ((go_at_call 49; exact Calls.quiet_of_same (index0_s s _ Hi.out _)))
          go_wp2_with fail
          go_ret
          refine ⟨?_, Stp.drewN Hw2.out _⟩
          rw [Hl.out, all_no E2.out (okT_mem G2.out)]
          rfl
        · have Hi := Lib.hid (show Lib.indexByte s 0 = -1 by rw [indexByte_upto, if_neg g2])
          have G2 := Lib.hid g2
          clear g2
          go_quiet ((go_at_call 49; exact Calls.quiet_of_same (index0_s s _ Hi.out _)))
          go_wp2_with fail
          exact ⟨⟨k + 1, by omega, by go_num, Lib.hid Ha2.out, Lib.hid Hr2.out, Lib.hid (Stp.drewN Hw2.out _), Lib.hid (all_step E2.out Hk.out (okT_true (by simpa using g1) G2.out))⟩, by simp [intOf]; omega⟩
      · have hkn : k = n := by omega
        subst hkn
        have hk2 := Hk.out
        rw [List.take_of_length_le (by rw [← txR_length, Hn.out]; exact Nat.le_refl _)] at hk2
        have Hk2 := Lib.hid hk2
        clear hk2 Hk hlt
        go_wp2_with (first
          | (go_at_call 50; refine (numbers_any h hb _ Ha.out).mono ?_; rintro e w3 ⟨g3, cap3, rfl, hg, hr3, hs'⟩; rw [Hm.out]; have Hb3 := Lib.hid (Ha.out.keep hs' Ha.out.lt); have H3 := Lib.hid (Stp.trans Hw.out hs'); have Hr3 := Lib.hid hr3; clear hs' hr3 hg Ha Hw Hr))
        go_loopw [48] (fun i wr => ∃ k : Nat, k ≤ m ∧ i = .int .i64 (k : Int) ∧ Hid (Blk wr hb 27 (hcells h)) ∧ Hid (RdC wr g3 (rowsC hb (nuR h))) ∧ Hid (Stp w wr) ∧ Hid (((nuo h).take k).all (fun p => putOk p.1 p.2) = true)) (fun i _ => m - (intOf i).toNat)
        case atStart => exact ⟨0, by omega, rfl, Hb3, Hr3, H3, Lib.hid (by simp)⟩
        case round =>
          obtain ⟨j, hj, rfl, Ha, Hr, Hw, Hk⟩ := hrel
          clear Hb3 Hr3 H3
          by_cases hlt : j < m
          · obtain ⟨q, wd, f, x, e1, e2, e3, e4, e5, e6, e7⟩ := nuR_at h Hs.out j (by rw [Hm.out]; exact hlt)
            obtain ⟨q1, q2, q3⟩ := rowsC_at hb _ j _ e1
            have c1 := Hr.out.2 _ _ q1
            have c2 := Hr.out.2 _ _ q2
            have c3 := Hr.out.2 _ _ q3
            have c4 : wr.cell? ⟨hb, f, none⟩ = some (.int .i64 x) := by rw [Ha.out.cell]; exact e4
            have hlw := Hr.out.1
            have hhs := Ha.out.lt
            have E2 := Lib.hid e2
            have E7 := Lib.hid e7
            clear q1 q2 q3 e1 e2 e3 e4 e5 e6 e7
            simp only at c1 c2 c3
            obtain ⟨ok, hok⟩ : ∃ b, putOk x (wd : Int) = b := ⟨_, rfl⟩
            have Hok := Lib.hid hok
            clear hok
            go_wp2_with fail
            generalize hwq : wr.alloc _ = wq
            have d1 : wq.cell? ⟨wr.heap.size, 1, none⟩ = some (.int .i64 (wd : Int)) := by rw [← hwq, World.cell?_alloc_new]; rfl
            have d2 : wq.cell? ⟨wr.heap.size, 2, none⟩ = some (.pointer (some ⟨hb, f, none⟩)) := by rw [← hwq, World.cell?_alloc_new]; rfl
            have d4 : wq.cell? ⟨hb, f, none⟩ = some (.int .i64 x) := by rw [← hwq, World.cell?_alloc_old]; exact c4; exact Nat.ne_of_lt hhs
            have Ha2 := Lib.hid (show Blk wq hb 27 (hcells h) by rw [← hwq]; exact Ha.out.alloc _)
            have Hr2 := Lib.hid (show RdC wq g3 (rowsC hb (nuR h)) by rw [← hwq]; exact Hr.out.grown (World.grownBy_alloc wr _ none) (by simp))
            have Hw2 := Lib.hid (show Stp w wq by rw [← hwq]; exact Stp.alloc Hw.out _)
            clear hwq c1 c2 c3 c4 Ha Hr Hw
            cases ok
            all_goals go_region_with (go_at_call 51; refine (put_all x (wd : Int) _ E7.out).mono ?_; rintro e w4 ⟨v, rfl, h3, h4⟩; rw [Hok.out]; have Ha4 := Lib.hid (Ha2.out.drew.keep h4 Ha2.out.lt); have Hr4 := Lib.hid (RdC.keep (RdC.drew Hr2.out) h4); have Hw4 := Lib.hid (Stp.trans (stp_drew Hw2.out) h4); clear h3 h4 d1 d2 d4)
            all_goals go_wp2_with fail
            all_goals first
              | (go_ret; refine ⟨?_, Hw4.out⟩; rw [Hl.out, Hk2.out, all_no E2.out Hok.out]; rfl)
              | exact ⟨⟨j + 1, by omega, by go_num, Ha4, Hr4, Hw4, Lib.hid (all_step E2.out Hk.out Hok.out)⟩, by simp [intOf]; omega⟩
          · have hkn : j = m := by omega
            subst hkn
            go_wp2_with fail
            go_ret
            refine ⟨?_, Hw.out⟩
            have hj2 := Hk.out
            rw [List.take_of_length_le (by rw [← nuR_length, Hm.out]; exact Nat.le_refl _)] at hj2
            rw [Hl.out, Hk2.out, hj2]
            rfl
end Go.Proofs.Ytihigbaaajmjlaa.Head
