/-
  The walks of the statements HeadSpoilt and HeadMay: each law returns true and writes nothing that was there; the statements themselves are proved in texts of their own.
-/
import Derived.Test.YtjbihmbnfkpbpaaHeadAwake
namespace Go.Proofs.Ytjbihmbnfkpbpaa.Head
open Go.RowKit Go.Proofs.Ytjbihmbnfkpbpaa.Base Go.Proofs.Ytjbihmbnfkpbpaa.NumM Go.Proofs.Ytjbihmbnfkpbpaa.Num

set_option maxHeartbeats 4000000 in
set_option maxRecDepth 100000 in
theorem spoilt_early (h : Hd) (hsm : SmallH h) (i : Int) (c : UInt8) (w : World) (hin : fewB h = false ∨ mayH h = false ∨ (mayH h = true ∧ (i < 0 ∨ 512 ≤ i ∨ ∃ k : Nat, i = (k : Int) ∧ (blk h)[k]? = some c))) :
    Calls Try.prog 5 #[hv h, .int .i64 i, .int .u8 (c.toNat : Int)] w fun e w' => e = .returned (.bool true) ∧ Stp w w' := by
  have h0 := Stp.alloc (Stp.refl w) (.cells (hcells h) 23)
  have Hb := Lib.hid (Blk.new w 23 (hcells h))
  obtain ⟨hb, hhb⟩ : ∃ x, w.heap.size = x := ⟨_, rfl⟩
  rw [hhb] at Hb
  have hhl : w.heap.size ≤ hb := Nat.le_of_eq hhb
  have Hs := Lib.hid hsm
  obtain ⟨f, hf⟩ : ∃ f, fewB h = f := ⟨_, rfl⟩
  obtain ⟨m, hm⟩ : ∃ m, mayH h = m := ⟨_, rfl⟩
  obtain ⟨B, hB⟩ : ∃ B, putB h = B := ⟨_, rfl⟩
  have hBl : m = true → B.length = 512 ∧ B = blk h := fun e => by
    subst e
    rw [← hB, putB_yes hm]
    exact ⟨blk_length hm hsm, rfl⟩
  rw [hf, hm] at hin
  have Hf := Lib.hid hf
  have Hm := Lib.hid hm
  have HB := Lib.hid hB
  have key : f = false ∨ (f = true ∧ m = false) ∨ (f = true ∧ m = true ∧ decide (i < 0) = true) ∨ (f = true ∧ m = true ∧ decide (i < 0) = false ∧ decide ((B.length : Int) ≤ i) = true) ∨ (f = true ∧ m = true ∧ decide (i < 0) = false ∧ decide ((B.length : Int) ≤ i) = false ∧ ∃ k : Nat, i = (k : Int) ∧ B[k]? = some c) := by
    cases f
    · exact .inl rfl
    · cases m
      · exact .inr (.inl ⟨rfl, rfl⟩)
      · obtain ⟨hl, hb⟩ := hBl rfl
        rcases hin with e | e | ⟨_, e | e | ⟨k, rfl, e⟩⟩
        · cases e
        · cases e
        · exact .inr (.inr (.inl ⟨rfl, rfl, by simpa using e⟩))
        · by_cases h9 : i < 0
          · exact .inr (.inr (.inl ⟨rfl, rfl, by simpa using h9⟩))
          · exact .inr (.inr (.inr (.inl ⟨rfl, rfl, by simpa using h9, by simp; omega⟩)))
        · have hk := (List.getElem?_eq_some_iff.1 e).1
          rw [← hb] at e hk
          exact .inr (.inr (.inr (.inr ⟨rfl, rfl, by first | (simp; omega) | simp, by first | (simp; omega) | simp, k, rfl, e⟩)))
  clear hin hf hm hB hBl hsm
  rcases key with rfl | ⟨rfl, rfl⟩ | ⟨rfl, rfl, g1⟩ | ⟨rfl, rfl, g1, g2⟩ | ⟨rfl, rfl, g1, g2, k, rfl, g3⟩
  · go_enter Try.func5, Try.ntmps5
    go_wp2_with (first
      | (go_at_call 10; refine (awake_s _).mono ?_; rintro e w1 ⟨rfl, hs⟩; replace Hb := Lib.hid (Hb.out.keep hs Hb.out.lt); replace h0 := Stp.trans h0 hs; clear hs; obtain ⟨x0, x1, x2, x3, x4, x5, x6, x7, x8, x9, x10⟩ := hd_cells Hb.out)
      | (go_at_call 11; refine (few_s h _).mono ?_; rintro e w2 ⟨rfl, hs⟩; rw [Hf.out]; replace Hb := Lib.hid (Hb.out.keep hs Hb.out.lt); replace h0 := Stp.trans h0 hs; clear hs; clear x0 x1 x2 x3 x4 x5 x6 x7 x8 x9 x10; obtain ⟨x0, x1, x2, x3, x4, x5, x6, x7, x8, x9, x10⟩ := hd_cells Hb.out)
      | (go_at_call 12; refine (put_s h Hs.out _).mono ?_; rintro e w3 ⟨A, cp, rfl, hr, hs⟩; rw [Hm.out]; rw [HB.out] at hr ⊢; have Hr := Lib.hid hr; replace Hb := Lib.hid (Hb.out.keep hs Hb.out.lt); replace h0 := Stp.trans h0 hs; clear hs hr; clear x0 x1 x2 x3 x4 x5 x6 x7 x8 x9 x10; obtain ⟨x0, x1, x2, x3, x4, x5, x6, x7, x8, x9, x10⟩ := hd_cells Hb.out))
    go_ret
    exact ⟨rfl, h0⟩
  · go_enter Try.func5, Try.ntmps5
    go_wp2_with (first
      | (go_at_call 10; refine (awake_s _).mono ?_; rintro e w1 ⟨rfl, hs⟩; replace Hb := Lib.hid (Hb.out.keep hs Hb.out.lt); replace h0 := Stp.trans h0 hs; clear hs; obtain ⟨x0, x1, x2, x3, x4, x5, x6, x7, x8, x9, x10⟩ := hd_cells Hb.out)
      | (go_at_call 11; refine (few_s h _).mono ?_; rintro e w2 ⟨rfl, hs⟩; rw [Hf.out]; replace Hb := Lib.hid (Hb.out.keep hs Hb.out.lt); replace h0 := Stp.trans h0 hs; clear hs; clear x0 x1 x2 x3 x4 x5 x6 x7 x8 x9 x10; obtain ⟨x0, x1, x2, x3, x4, x5, x6, x7, x8, x9, x10⟩ := hd_cells Hb.out)
      | (go_at_call 12; refine (put_s h Hs.out _).mono ?_; rintro e w3 ⟨A, cp, rfl, hr, hs⟩; rw [Hm.out]; rw [HB.out] at hr ⊢; have Hr := Lib.hid hr; replace Hb := Lib.hid (Hb.out.keep hs Hb.out.lt); replace h0 := Stp.trans h0 hs; clear hs hr; clear x0 x1 x2 x3 x4 x5 x6 x7 x8 x9 x10; obtain ⟨x0, x1, x2, x3, x4, x5, x6, x7, x8, x9, x10⟩ := hd_cells Hb.out))
    go_ret
    exact ⟨rfl, h0⟩
  · go_enter Try.func5, Try.ntmps5
    go_wp2_with (first
      | (go_at_call 10; refine (awake_s _).mono ?_; rintro e w1 ⟨rfl, hs⟩; replace Hb := Lib.hid (Hb.out.keep hs Hb.out.lt); replace h0 := Stp.trans h0 hs; clear hs; obtain ⟨x0, x1, x2, x3, x4, x5, x6, x7, x8, x9, x10⟩ := hd_cells Hb.out)
      | (go_at_call 11; refine (few_s h _).mono ?_; rintro e w2 ⟨rfl, hs⟩; rw [Hf.out]; replace Hb := Lib.hid (Hb.out.keep hs Hb.out.lt); replace h0 := Stp.trans h0 hs; clear hs; clear x0 x1 x2 x3 x4 x5 x6 x7 x8 x9 x10; obtain ⟨x0, x1, x2, x3, x4, x5, x6, x7, x8, x9, x10⟩ := hd_cells Hb.out)
      | (go_at_call 12; refine (put_s h Hs.out _).mono ?_; rintro e w3 ⟨A, cp, rfl, hr, hs⟩; rw [Hm.out]; rw [HB.out] at hr ⊢; have Hr := Lib.hid hr; replace Hb := Lib.hid (Hb.out.keep hs Hb.out.lt); replace h0 := Stp.trans h0 hs; clear hs hr; clear x0 x1 x2 x3 x4 x5 x6 x7 x8 x9 x10; obtain ⟨x0, x1, x2, x3, x4, x5, x6, x7, x8, x9, x10⟩ := hd_cells Hb.out))
    go_ret
    exact ⟨rfl, h0⟩
  · go_enter Try.func5, Try.ntmps5
    go_wp2_with (first
      | (go_at_call 10; refine (awake_s _).mono ?_; rintro e w1 ⟨rfl, hs⟩; replace Hb := Lib.hid (Hb.out.keep hs Hb.out.lt); replace h0 := Stp.trans h0 hs; clear hs; obtain ⟨x0, x1, x2, x3, x4, x5, x6, x7, x8, x9, x10⟩ := hd_cells Hb.out)
      | (go_at_call 11; refine (few_s h _).mono ?_; rintro e w2 ⟨rfl, hs⟩; rw [Hf.out]; replace Hb := Lib.hid (Hb.out.keep hs Hb.out.lt); replace h0 := Stp.trans h0 hs; clear hs; clear x0 x1 x2 x3 x4 x5 x6 x7 x8 x9 x10; obtain ⟨x0, x1, x2, x3, x4, x5, x6, x7, x8, x9, x10⟩ := hd_cells Hb.out)
      | (go_at_call 12; refine (put_s h Hs.out _).mono ?_; rintro e w3 ⟨A, cp, rfl, hr, hs⟩; rw [Hm.out]; rw [HB.out] at hr ⊢; have Hr := Lib.hid hr; replace Hb := Lib.hid (Hb.out.keep hs Hb.out.lt); replace h0 := Stp.trans h0 hs; clear hs hr; clear x0 x1 x2 x3 x4 x5 x6 x7 x8 x9 x10; obtain ⟨x0, x1, x2, x3, x4, x5, x6, x7, x8, x9, x10⟩ := hd_cells Hb.out))
    go_ret
    exact ⟨rfl, h0⟩
  · have G3 := Lib.hid g3
    have hkl := (List.getElem?_eq_some_iff.1 g3).1
    clear g3
    go_enter Try.func5, Try.ntmps5
    go_wp2_with (first
      | (go_at_call 10; refine (awake_s _).mono ?_; rintro e w1 ⟨rfl, hs⟩; replace Hb := Lib.hid (Hb.out.keep hs Hb.out.lt); replace h0 := Stp.trans h0 hs; clear hs; obtain ⟨x0, x1, x2, x3, x4, x5, x6, x7, x8, x9, x10⟩ := hd_cells Hb.out)
      | (go_at_call 11; refine (few_s h _).mono ?_; rintro e w2 ⟨rfl, hs⟩; rw [Hf.out]; replace Hb := Lib.hid (Hb.out.keep hs Hb.out.lt); replace h0 := Stp.trans h0 hs; clear hs; clear x0 x1 x2 x3 x4 x5 x6 x7 x8 x9 x10; obtain ⟨x0, x1, x2, x3, x4, x5, x6, x7, x8, x9, x10⟩ := hd_cells Hb.out)
      | (go_at_call 12; refine (put_s h Hs.out _).mono ?_; rintro e w3 ⟨A, cp, rfl, hr, hs⟩; rw [Hm.out]; rw [HB.out] at hr ⊢; have Hr := Lib.hid hr; replace Hb := Lib.hid (Hb.out.keep hs Hb.out.lt); replace h0 := Stp.trans h0 hs; clear hs hr; clear x0 x1 x2 x3 x4 x5 x6 x7 x8 x9 x10; obtain ⟨x0, x1, x2, x3, x4, x5, x6, x7, x8, x9, x10⟩ := hd_cells Hb.out; obtain ⟨b, o, rfl, ca⟩ := byte_at Hr.out G3.out))
    go_ret
    exact ⟨rfl, h0⟩

set_option maxHeartbeats 4000000 in
set_option maxRecDepth 100000 in
theorem spoilt_main (h : Hd) (hsm : SmallH h) (k : Nat) (x c : UInt8) (w : World) (hf : fewB h = true) (hm : mayH h = true) (hx : (blk h)[k]? = some x) (hne : x ≠ c) :
    Calls Try.prog 5 #[hv h, .int .i64 (k : Int), .int .u8 (c.toNat : Int)] w fun e w' => e = .returned (.bool true) ∧ Stp w w' := by
  have h0 := Stp.alloc (Stp.refl w) (.cells (hcells h) 23)
  have Hb := Lib.hid (Blk.new w 23 (hcells h))
  obtain ⟨hb, hhb⟩ : ∃ x, w.heap.size = x := ⟨_, rfl⟩
  rw [hhb] at Hb
  have hhl : w.heap.size ≤ hb := Nat.le_of_eq hhb
  have hcode := code_spoilt hm hsm hx hne
  have hbl := blk_length hm hsm
  have hpb := putB_yes hm
  have Hs := Lib.hid hsm
  have Hf := Lib.hid hf
  have Hm := Lib.hid hm
  obtain ⟨B, hB⟩ : ∃ B, blk h = B := ⟨_, rfl⟩
  rw [hB] at hcode hbl hpb hx
  have HB := Lib.hid hpb
  have Hc := Lib.hid hcode
  have Hl := Lib.hid hbl
  have Hx := Lib.hid hx
  have hk := (List.getElem?_eq_some_iff.1 hx).1
  have g1 : decide ((k : Int) < 0) = false := by first | (simp; omega) | simp
  have g2 : decide ((B.length : Int) ≤ (k : Int)) = false := by first | (simp; omega) | simp
  have g3 : ((x.toNat : Int) == (c.toNat : Int)) = false := by
    rw [beq_eq_false_iff_ne]
    intro e
    exact hne (UInt8.toNat_inj.1 (by omega))
  obtain ⟨y, hy⟩ : ∃ y : Int, (x.toNat : Int) = y := ⟨_, rfl⟩
  obtain ⟨z, hz⟩ : ∃ z : Int, (c.toNat : Int) = z := ⟨_, rfl⟩
  rw [hy, hz] at g3
  have Hy := Lib.hid hy
  have Hz := Lib.hid hz
  rw [hz]
  clear hcode hbl hpb hx hy hz hB hm hf hsm hne
  go_enter Try.func5, Try.ntmps5
  go_wp2_with (first
    | (go_at_call 10; refine (awake_s _).mono ?_; rintro e w1 ⟨rfl, hs⟩; replace Hb := Lib.hid (Hb.out.keep hs Hb.out.lt); replace h0 := Stp.trans h0 hs; clear hs; obtain ⟨x0, x1, x2, x3, x4, x5, x6, x7, x8, x9, x10⟩ := hd_cells Hb.out)
    | (go_at_call 11; refine (few_s h _).mono ?_; rintro e w2 ⟨rfl, hs⟩; rw [Hf.out]; replace Hb := Lib.hid (Hb.out.keep hs Hb.out.lt); replace h0 := Stp.trans h0 hs; clear hs; clear x0 x1 x2 x3 x4 x5 x6 x7 x8 x9 x10; obtain ⟨x0, x1, x2, x3, x4, x5, x6, x7, x8, x9, x10⟩ := hd_cells Hb.out)
    | (go_at_call 12; refine (put_s h Hs.out _).mono ?_; rintro e w3 ⟨A, cp, rfl, hr, hs⟩; rw [Hm.out]; rw [HB.out] at hr ⊢; have Hr := Lib.hid hr; replace Hb := Lib.hid (Hb.out.keep hs Hb.out.lt); replace h0 := Stp.trans h0 hs; clear hs hr; clear x0 x1 x2 x3 x4 x5 x6 x7 x8 x9 x10; obtain ⟨x0, x1, x2, x3, x4, x5, x6, x7, x8, x9, x10⟩ := hd_cells Hb.out; obtain ⟨b, o, rfl, ca⟩ := byte_at Hr.out Hx.out; rw [Hy.out] at ca)
    | (at_builtin; refine wpList_append_form (P := Try.prog) _ rfl (.const (.slice none 0 0)) (.tmp 51) 24 rfl w3.heap.size 5 (.int .u8 0) 1 Try.underlying24 Num.byte_info rfl (.slice none 0 0) [] rfl (Base.Own.nil _ _ _) _ _ (bs B) (by show Value.slice _ _ _ = Value.slice _ _ _; rw [bs_length]) Hr.out (bs_one _) B.length (by rw [List.nil_append, bs_length]) (by rw [Hl.out]; omega) (by rw [Hl.out]; unfold maxLen; omega) (by rw [Hl.out]; omega) (Nat.le_refl _) ?_; intro g4 cap4 w4 hv4 hg4 hlo4 hlt4 _; rw [List.nil_append] at hv4; have hc4 := own_cell hv4 rfl Hx.out; rw [Hy.out] at hc4; have hf4 := hv4.free_n (bs_length _) k hk; have Hv4 := Lib.hid hv4; have H4 := Lib.hid (stp_at h0 (grown_none hg4) (Nat.le_trans h0.size hlo4)); clear hg4 hv4))
  have hv5 : Base.Own (w4.setCell ⟨g4, k, none⟩ (.int .u8 z)) w3.heap.size 5 (.slice (some ⟨g4, 0, none⟩) B.length cap4) (bs (B.set k c)) := by
    rw [bs_set, Hz.out]
    exact Hv4.out.put_n (bs_length _) k _
  have h5 := stp_set H4.out (Nat.le_trans h0.size hlo4) k (.int .u8 z)
  refine (hget_n (B.set k c) _ B.length cap4 _ (own_rdA hv5 (by rw [List.length_set])) (by rw [List.length_set])).mono ?_
  rintro e w6 ⟨rfl, hs⟩
  rw [Hc.out]
  have H6 := Lib.hid (Stp.trans h5 hs)
  generalize getH (B.set k c) = H
  clear hs h5 hv5 Hv4 H4 hc4 hf4 ca x0 x1 x2 x3 x4 x5 x6 x7 x8 x9 x10
  go_wp2_with fail
  go_ret
  exact ⟨rfl, Stp.alloc H6.out _⟩

theorem spoilt_any (h : Hd) (hsm : SmallH h) (i z : Int) (w : World) (h0 : 0 ≤ z) (h255 : z ≤ 255) :
    Calls Try.prog 5 #[hv h, .int .i64 i, .int .u8 z] w fun e w' => e = .returned (.bool true) ∧ Below w.heap.size w w' := by
  obtain ⟨c, rfl⟩ : ∃ c : UInt8, z = (c.toNat : Int) := ⟨UInt8.ofNat z.toNat, by rw [UInt8.toNat_ofNat']; omega⟩
  by_cases hin : fewB h = false ∨ mayH h = false ∨ (mayH h = true ∧ (i < 0 ∨ 512 ≤ i ∨ ∃ k : Nat, i = (k : Int) ∧ (blk h)[k]? = some c))
  · exact spoilt_early h hsm i c w hin
  · simp only [not_or, not_and, Bool.not_eq_false] at hin
    obtain ⟨hf, hm, hin⟩ := hin
    obtain ⟨q1, q2, q3⟩ := hin hm
    obtain ⟨k, rfl⟩ := Int.eq_ofNat_of_zero_le (show 0 ≤ i by omega)
    have hk : k < (blk h).length := by rw [blk_length hm hsm]; omega
    refine spoilt_main h hsm k (blk h)[k] c w hf hm (List.getElem?_eq_getElem hk) fun e => q3 ⟨k, rfl, ?_⟩
    rw [List.getElem?_eq_getElem hk, e]
end Go.Proofs.Ytjbihmbnfkpbpaa.Head
