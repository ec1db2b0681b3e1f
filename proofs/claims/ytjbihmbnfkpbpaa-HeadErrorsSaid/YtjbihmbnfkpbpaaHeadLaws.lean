/-
  The walks of the statements HeadErrors and HeadSum: each law returns true and writes nothing that was there; the statements themselves are proved in texts of their own.
-/
import Derived.Test.YtjbihmbnfkpbpaaHeadHlp
import Derived.Test.YtjbihmbnfkpbpaaHeadAwake
namespace Go.Proofs.Ytjbihmbnfkpbpaa.Head
open Go.RowKit Go.Proofs.Ytjbihmbnfkpbpaa.Base Go.Proofs.Ytjbihmbnfkpbpaa.NumM Go.Proofs.Ytjbihmbnfkpbpaa.Num

theorem zeroV_next {l : L} {k : Nat} {x : UInt8} (hl : l[k]? = some x) : zeroV (l.take (k + 1)) = (zeroV (l.take k) && ((x.toNat : Int) == 0)) := by
  unfold zeroV
  rw [List.take_add_one, hl, List.all_append]
  simp only [Option.toList_some, List.all_cons, List.all_nil, Bool.and_true]
  rw [show ((x.toNat : Int) == 0) = decide (x = 0) from ty_eq x 0 (by omega)]
theorem code_ways (l : L) (h : l.length = 512) : (codeB l = 4 ∧ zeroV l = true) ∨ ((codeB l = 0 ∨ codeB l = 3 ∨ codeB l = 2) ∧ zeroV l = false) := by
  unfold codeB
  rw [if_pos h]
  by_cases hz : l = zeros 512
  · rw [if_pos hz]
    exact .inl ⟨rfl, zeroV_iff.2 (by rw [h]; exact hz)⟩
  · rw [if_neg hz]
    refine .inr ⟨?_, ?_⟩
    · split
      · split
        · exact .inl rfl
        · exact .inr (.inr rfl)
      · exact .inr (.inl rfl)
    · rw [Bool.eq_false_iff]
      intro e
      have := zeroV_iff.1 e
      rw [h] at this
      exact hz this
theorem code_arg (l : L) (h : l.length ≠ 512) : codeB l = 1 := by unfold codeB; rw [if_neg h]

def ERel (l : L) (w : World) (zz i : Value) (wr : World) : Prop := ∃ k : Nat, k ≤ l.length ∧ i = .int .i64 (k : Int) ∧ zz = .bool (zeroV (l.take k)) ∧ Hid (Stp w wr)

set_option maxHeartbeats 4000000 in
set_option maxRecDepth 100000 in
theorem errors_walk (l : L) (A : Option Addr) (c : Nat) (w : World) (ha : RdA w A c (bs l)) (hbig : l.length < 9223372036854775808) :
    Calls Try.prog 7 #[.slice A l.length c] w fun e w' => e = .returned (.bool true) ∧ Stp w w' := by
  have h0 := Stp.refl w
  by_cases h600 : 600 < l.length
  · have g : decide ((600 : Int) < (l.length : Int)) = true := by simp; omega
    clear h600
    go_enter Try.func7, Try.ntmps7
    go_wp2_with (go_at_call 10; refine (awake_s _).mono ?_; rintro e w' ⟨rfl, hs⟩; replace h0 := Stp.trans h0 hs; clear hs)
    go_ret
    exact ⟨rfl, h0⟩
  · have g : decide ((600 : Int) < (l.length : Int)) = false := by simp; omega
    have hl6 : l.length ≤ 600 := by omega
    have key : (((l.length : Int) != 512) = true ∧ codeB l = 1) ∨ (((l.length : Int) != 512) = false ∧ codeB l = 4 ∧ zeroV l = true) ∨ (((l.length : Int) != 512) = false ∧ codeB l = 0 ∧ zeroV l = false) ∨ (((l.length : Int) != 512) = false ∧ codeB l = 3 ∧ zeroV l = false) ∨ (((l.length : Int) != 512) = false ∧ codeB l = 2 ∧ zeroV l = false) := by
      by_cases h5 : l.length = 512
      · have g5 : ((l.length : Int) != 512) = false := by simp; omega
        rcases code_ways l h5 with ⟨a, b⟩ | ⟨a | a | a, b⟩ <;> simp [g5, a, b]
      · have g5 : ((l.length : Int) != 512) = true := by simp; omega
        exact .inl ⟨g5, code_arg l h5⟩
    have Ha := Lib.hid ha
    have Hbig := Lib.hid hbig
    obtain ⟨z, hz⟩ : ∃ z, zeroV l = z := ⟨_, rfl⟩
    obtain ⟨cd, hcd⟩ : ∃ cd, codeB l = cd := ⟨_, rfl⟩
    rw [hz, hcd] at key
    have Hz := Lib.hid hz
    have Hcd := Lib.hid hcd
    clear h600 hz hcd ha hbig
    go_enter Try.func7, Try.ntmps7
    have Key := Lib.hid key
    clear key
    go_wp2_with (go_at_call 10; refine (awake_s _).mono ?_; rintro e w' ⟨rfl, hs⟩; replace h0 := Stp.trans h0 hs; clear hs)
    go_loopw [4, 5] (fun zz i wr => ERel l w zz i wr) (fun _ i _ => l.length - (intOf i).toNat)
    case atStart => exact ⟨0, by omega, rfl, rfl, Lib.hid h0⟩
    case round =>
      obtain ⟨k, hk, rfl, rfl, Hs⟩ := hrel
      by_cases hlt : k < l.length
      · obtain ⟨x, hl1⟩ : ∃ x, l[k]? = some x := ⟨_, List.getElem?_eq_getElem hlt⟩
        obtain ⟨b, o, rfl, ca⟩ := byte_at (Ha.out.keep Hs.out) hl1
        have Hst := Lib.hid (zeroV_next hl1)
        obtain ⟨y, hy⟩ : ∃ y : Int, (x.toNat : Int) = y := ⟨_, rfl⟩
        rw [hy] at ca Hst
        obtain ⟨z1, hz1⟩ : ∃ z1, zeroV (l.take k) = z1 := ⟨_, rfl⟩
        rw [hz1] at Hst ⊢
        clear hl1 hy hz1 h0
        cases z1
        · have R := Lib.hid (show ERel l w (.bool false) (.int .i64 ((k : Int) + 1)) wr from ⟨k + 1, by omega, by go_num, by rw [Hst.out]; rfl, Hs⟩)
          go_wp2_with fail
          go_roundw
          · first
              | exact R.out
              | (repeat apply Exists.intro
                 refine ⟨R.out, ?_⟩
                 repeat' first | rfl | constructor)
          · simp [intOf]; omega
        · have R := Lib.hid (show ERel l w (.bool (y == 0)) (.int .i64 ((k : Int) + 1)) wr from ⟨k + 1, by omega, by go_num, by rw [Hst.out, Bool.true_and], Hs⟩)
          go_wp2_with fail
          go_roundw
          · first
              | exact R.out
              | (repeat apply Exists.intro
                 refine ⟨R.out, ?_⟩
                 repeat' first | rfl | constructor)
          · simp [intOf]; omega
      · obtain rfl : k = l.length := by omega
        rw [List.take_length, Hz.out]
        have h1 := Hs.out
        clear h0
        rcases Key.out with ⟨g5, rfl⟩ | ⟨g5, rfl, rfl⟩ | ⟨g5, rfl, rfl⟩ | ⟨g5, rfl, rfl⟩ | ⟨g5, rfl, rfl⟩
        all_goals go_wp2_with (go_at_call 14; refine (hget_s l _ _ _ (Ha.out.keep h1)).mono ?_; rintro e w' ⟨rfl, hs⟩; replace h1 := Stp.trans h1 hs; clear hs; rw [Hcd.out]; generalize getH l = H)
        all_goals go_ret
        all_goals exact ⟨rfl, Stp.alloc h1 _⟩

set_option maxHeartbeats 4000000 in
set_option maxRecDepth 100000 in
theorem hsum_early (l : L) (i : Int) (A : Option Addr) (c : Nat) (w : World) (ha : RdA w A c (bs l)) (hbig : l.length < 9223372036854775808)
    (hin : 600 < l.length ∨ (l.length ≤ 600 ∧ l.length ≠ 512) ∨ (l.length = 512 ∧ (i < 0 ∨ 512 ≤ i))) :
    Calls Try.prog 6 #[.slice A l.length c, .int .i64 i] w fun e w' => e = .returned (.bool true) ∧ Stp w w' := by
  have h0 := Stp.refl w
  obtain ⟨n, hn⟩ : ∃ n, sumI l = n := ⟨_, rfl⟩
  have hr : l.length = 512 → 256 ≤ n ∧ n ≤ 130560 := fun h => by
    have h1 := sumN_le h
    rw [sumI_yes h] at hn
    unfold sumN at h1 hn
    omega
  have hm : l.length ≠ 512 → n = -1 := fun h => by rw [← hn]; exact sumI_no h
  have key : decide ((600 : Int) < (l.length : Int)) = true ∨ (decide ((600 : Int) < (l.length : Int)) = false ∧ ((l.length : Int) != 512) = true ∧ n = -1) ∨ (decide ((600 : Int) < (l.length : Int)) = false ∧ ((l.length : Int) != 512) = false ∧ decide (n < 256) = false ∧ decide (130560 < n) = false ∧ decide (256 ≤ n) = true ∧ decide (n ≤ 130560) = true ∧ (decide (i < 0) = true ∨ (decide (i < 0) = false ∧ decide (512 ≤ i) = true))) := by
    simp only [decide_eq_true_eq, decide_eq_false_iff_not, bne_iff_ne, bne_eq_false_iff_eq]
    rcases hin with h | ⟨h, h2⟩ | ⟨h, h2⟩
    · omega
    · have := hm h2
      omega
    · have := hr h
      omega
  have Ha := Lib.hid ha
  have Hn := Lib.hid hn
  have Hbig := Lib.hid hbig
  clear hin hr hm ha hn hbig
  rcases key with g1 | ⟨g1, g2, rfl⟩ | ⟨g1, g2, g3, g4, g5, g6, g7 | ⟨g7, g8⟩⟩
  all_goals go_enter Try.func6, Try.ntmps6
  all_goals go_wp2_with (first
    | (go_at_call 10; refine (awake_s _).mono ?_; rintro e w' ⟨rfl, hs⟩; replace h0 := Stp.trans h0 hs; clear hs)
    | (go_at_call 18; refine (sum_s l _ _ _ (Ha.out.keep h0) Hbig.out).mono ?_; rintro e w' ⟨rfl, hs⟩; replace h0 := Stp.trans h0 hs; clear hs; rw [Hn.out]))
  all_goals go_ret
  all_goals exact ⟨rfl, h0⟩

set_option maxHeartbeats 4000000 in
set_option maxRecDepth 100000 in
theorem hsum_main (l : L) (k : Nat) (x : UInt8) (A : Option Addr) (c : Nat) (w : World) (ha : RdA w A c (bs l)) (h512 : l.length = 512) (hx : l[k]? = some x) :
    Calls Try.prog 6 #[.slice A l.length c, .int .i64 (k : Int)] w fun e w' => e = .returned (.bool true) ∧ Stp w w' := by
  have h0 := Stp.refl w
  have hk := (List.getElem?_eq_some_iff.1 hx).1
  obtain ⟨n, hn⟩ : ∃ n, sumI l = n := ⟨_, rfl⟩
  have hr : 256 ≤ n ∧ n ≤ 130560 := by
    have h1 := sumN_le h512
    rw [sumI_yes h512] at hn
    unfold sumN at h1 hn
    omega
  have g0 : decide ((600 : Int) < (l.length : Int)) = false := by first | (simp; omega) | simp
  have g1 : ((l.length : Int) != 512) = false := by first | (simp; omega) | simp
  have g2 : decide (n < 256) = false := by first | (simp; omega) | simp
  have g3 : decide (130560 < n) = false := by first | (simp; omega) | simp
  have g4 : decide ((k : Int) < 0) = false := by first | (simp; omega) | simp
  have g5 : decide (512 ≤ (k : Int)) = false := by first | (simp; omega) | simp
  have Ha := Lib.hid ha
  have Hn := Lib.hid hn
  have Hx := Lib.hid hx
  have H512 := Lib.hid h512
  have Hbig := Lib.hid (show l.length < 9223372036854775808 by omega)
  have hx255 := x.toNat_lt
  by_cases hxf : x.toNat = 255
  · have g6 : ((x.toNat : Int) == 255) = true := by first | (simp; omega) | simp
    have g7 : decide (256 ≤ n) = true := by first | (simp; omega) | simp
    have g8 : decide (n ≤ 130560) = true := by first | (simp; omega) | simp
    obtain ⟨y, hy⟩ : ∃ y : Int, (x.toNat : Int) = y := ⟨_, rfl⟩
    rw [hy] at g6
    have Hy := Lib.hid hy
    clear hr ha hn hx h512 hxf hx255 hy
    go_enter Try.func6, Try.ntmps6
    go_wp2_with (first
      | (go_at_call 10; refine (awake_s _).mono ?_; rintro e w' ⟨rfl, hs⟩; replace h0 := Stp.trans h0 hs; clear hs)
      | (go_at_call 18; refine (sum_s l _ _ _ (Ha.out.keep h0) Hbig.out).mono ?_; rintro e w' ⟨rfl, hs⟩; replace h0 := Stp.trans h0 hs; clear hs; rw [Hn.out]; obtain ⟨b, o, rfl, ca⟩ := byte_at (Ha.out.keep h0) Hx.out; rw [Hy.out] at ca))
    go_ret
    exact ⟨rfl, h0⟩
  · have g6 : ((x.toNat : Int) == 255) = false := by first | (simp; omega) | simp
    have hyl : x.toNat ≤ 254 := by omega
    obtain ⟨c1, hc1⟩ : ∃ c1 : UInt8, c1.toNat = x.toNat + 1 := ⟨UInt8.ofNat (x.toNat + 1), by_toNat (by omega)⟩
    obtain ⟨y, hy⟩ : ∃ y : Nat, x.toNat = y := ⟨_, rfl⟩
    rw [hy] at g6 hyl hc1
    have hs1 := sumN_set (c := c1) h512 hx
    have hl2 : (l.set k c1).length = 512 := by rw [List.length_set]; exact h512
    obtain ⟨m, hm⟩ : ∃ m, sumI (l.set k c1) = m := ⟨_, rfl⟩
    have hmn : ((148 ≤ k ∧ k < 156) → m = n) ∧ (¬ (148 ≤ k ∧ k < 156) → m = n + 1) := by
      rw [sumI_yes hl2] at hm
      rw [sumI_yes h512] at hn
      exact ⟨fun h => by have := hs1.1 h; omega, fun h => by have := hs1.2 h; omega⟩
    have key : (decide (148 ≤ (k : Int)) = true ∧ decide ((k : Int) < 156) = true ∧ (m == n) = true) ∨ (decide (148 ≤ (k : Int)) = false ∧ decide ((k : Int) < 148) = true ∧ (m == n + 1) = true) ∨ (decide (148 ≤ (k : Int)) = true ∧ decide ((k : Int) < 156) = false ∧ decide ((k : Int) < 148) = false ∧ decide (156 ≤ (k : Int)) = true ∧ (m == n + 1) = true) := by
      simp only [decide_eq_true_eq, decide_eq_false_iff_not, beq_iff_eq]
      omega
    have Hy := Lib.hid hy
    have Hc1 := Lib.hid hc1
    have Hm := Lib.hid hm
    have Hl2 := Lib.hid hl2
    have hn1 : n ≤ 130560 := hr.2
    have hn0 : 256 ≤ n := hr.1
    have Key := Lib.hid key
    clear hr ha hn hx hxf hx255 hy hc1 hs1 hl2 hm hmn key
    go_enter Try.func6, Try.ntmps6
    have H0 := Lib.hid h512
    clear h512
    go_wp2_with (first
      | (go_at_call 10; refine (awake_s _).mono ?_; rintro e w' ⟨rfl, hs⟩; replace h0 := Stp.trans h0 hs; clear hs)
      | (go_at_call 18; (with_reducible refine (sum_s l _ _ _ (Ha.out.keep h0) Hbig.out).mono ?_); rintro e w2 ⟨rfl, hs⟩; replace h0 := Stp.trans h0 hs; clear hs; rw [Hn.out]; have Ha2 := Lib.hid (Ha.out.keep h0); obtain ⟨b, o, rfl, ca⟩ := byte_at (Ha.out.keep h0) Hx.out; rw [Hy.out] at ca)
      | (at_builtin; refine wpList_append_form (P := Try.prog) _ rfl (.const (.slice none 0 0)) (.tmp 52) 24 rfl w2.heap.size 5 (.int .u8 0) 1 Try.underlying24 Num.byte_info rfl (.slice none 0 0) [] rfl (Base.Own.nil _ _ _) _ _ (bs l) (by show Value.slice _ _ _ = Value.slice _ _ _; rw [bs_length]) Ha2.out (bs_one _) l.length (by rw [List.nil_append, bs_length]) (by rw [H0.out]; omega) (by rw [H0.out]; unfold maxLen; omega) (by rw [H0.out]; omega) (Nat.le_refl _) ?_; intro g3 cap3 w3 hv3 hg3 hlo3 hlt3 _; rw [List.nil_append] at hv3; have hc3 := own_cell hv3 rfl Hx.out; rw [Hy.out] at hc3; have hf3 := hv3.free_n (bs_length _) k hk; have Hv3 := Lib.hid hv3; have H3 := Lib.hid (stp_at h0 (grown_none hg3) (Nat.le_trans h0.size hlo3)); clear hg3 hv3))
    have hv4 : Base.Own (w3.setCell ⟨g3, k, none⟩ (.int .u8 ((y : Int) + 1))) w2.heap.size 5 (.slice (some ⟨g3, 0, none⟩) l.length cap3) (bs (l.set k c1)) := by
      rw [bs_set, Hc1.out, show (((y + 1 : Nat) : Int)) = (y : Int) + 1 by omega]
      exact Hv3.out.put_n (bs_length _) k _
    have h4 := stp_set H3.out (Nat.le_trans h0.size hlo3) k (.int .u8 ((y : Int) + 1))
    refine (sum_n (l.set k c1) _ l.length cap3 _ (own_rdA hv4 (by rw [List.length_set])) (by rw [List.length_set]) (by rw [List.length_set]; exact Hbig.out)).mono ?_
    rintro e w5 ⟨rfl, hs⟩
    rw [Hm.out]
    have H5 := Lib.hid (Stp.trans h4 hs)
    clear hs h4 hv4 Hv3 H3 hc3 hf3 ca
    rcases Key.out with ⟨a1, a2, a3⟩ | ⟨a1, a2, a3⟩ | ⟨a1, a2, a3, a4, a5⟩
    all_goals go_wp2_with fail
    all_goals go_ret
    all_goals exact ⟨rfl, H5.out⟩

theorem hsum_walk (l : L) (i : Int) (A : Option Addr) (c : Nat) (w : World) (ha : RdA w A c (bs l)) (hbig : l.length < 9223372036854775808) :
    Calls Try.prog 6 #[.slice A l.length c, .int .i64 i] w fun e w' => e = .returned (.bool true) ∧ Stp w w' := by
  by_cases hin : 600 < l.length ∨ (l.length ≤ 600 ∧ l.length ≠ 512) ∨ (l.length = 512 ∧ (i < 0 ∨ 512 ≤ i))
  · exact hsum_early l i A c w ha hbig hin
  · obtain ⟨k, rfl⟩ := Int.eq_ofNat_of_zero_le (show 0 ≤ i by omega)
    have hk : k < l.length := by omega
    exact hsum_main l k l[k] A c w ha (by omega) (List.getElem?_eq_getElem hk)
end Go.Proofs.Ytjbihmbnfkpbpaa.Head
