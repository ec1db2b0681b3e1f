/-
  The walk of the statement NumShort: the law returns true and writes nothing that was there; the statement itself is proved in a text of its own.
-/
import Derived.Test.YtdjbddnbilemaaaNumLaws3
namespace Go.Proofs.Ytdjbddnbilemaaa.Num
open Go.RowKit Go.Proofs.Ytdjbddnbilemaaa.Base Go.Proofs.Ytdjbddnbilemaaa.NumM

set_option maxHeartbeats 1600000 in
set_option maxRecDepth 100000 in
theorem short_none (n wide k c : Int) (w : World) (hn : n < 9223372036854775808) (hp : putOk n wide = false) :
    Calls Try.prog 7 #[.int .i64 n, .int .i64 wide, .int .i64 k, .int .u8 c] w fun e w' => e = .returned (.bool true) ∧ Below w.heap.size w w' := by
  have Hp := Lib.hid hp
  clear hp
  go_enter Try.func7, Try.ntmps7
  go_wp2_with fail
  refine (awake_any w).mono ?_
  rintro e w1 ⟨rfl, hb1⟩
  have Hb1 := Lib.hid hb1
  clear hb1
  go_wp2_with fail
  refine (put_no n wide w1 hn Hp.out).mono ?_
  rintro e w2 ⟨rfl, hb2⟩
  have Hb2 := Lib.hid (Hb1.out.trans (hb2.mono Hb1.out.size))
  clear hb2 Hb1
  go_wp2_with fail
  go_ret
  exact ⟨rfl, Hb2.out⟩

set_option maxHeartbeats 1600000 in
set_option maxRecDepth 100000 in
theorem short_away (N D : Nat) (k c : Int) (w : World) (hn : N < 9223372036854775808) (h1 : 1 ≤ D) (h19 : D ≤ 19) (hf : N < 256 ^ D) (hk : k < 0 ∨ (D : Int) + 1 ≤ k) :
    Calls Try.prog 7 #[.int .i64 (N : Int), .int .i64 ((D : Int) + 1), .int .i64 k, .int .u8 c] w fun e w' => e = .returned (.bool true) ∧ Below w.heap.size w w' := by
  have Hf := Lib.hid hf
  clear hf
  by_cases hk0 : k < 0
  · clear hk
    have g0 : decide (k < 0) = true := by simpa using hk0
    go_enter Try.func7, Try.ntmps7
    go_wp2_with fail
    refine (awake_any w).mono ?_
    rintro e w1 ⟨rfl, hb1⟩
    have Hb1 := Lib.hid hb1
    clear hb1
    go_wp2_with fail
    refine (put_nat N D w1 hn h1 h19 Hf.out).mono ?_
    rintro e w2 ⟨g, cap, rfl, _, _, _, hb2⟩
    have Hb2 := Lib.hid (Hb1.out.trans (hb2.mono Hb1.out.size))
    clear hb2 Hb1
    go_wp2_with fail
    go_ret
    exact ⟨rfl, Hb2.out⟩
  · have hk1 : (D : Int) + 1 ≤ k := by omega
    clear hk
    have g0 : decide (k < 0) = false := by simpa using hk0
    have g1 : decide ((D : Int) + 1 ≤ k) = true := by simpa using hk1
    go_enter Try.func7, Try.ntmps7
    go_wp2_with fail
    refine (awake_any w).mono ?_
    rintro e w1 ⟨rfl, hb1⟩
    have Hb1 := Lib.hid hb1
    clear hb1
    go_wp2_with fail
    refine (put_nat N D w1 hn h1 h19 Hf.out).mono ?_
    rintro e w2 ⟨g, cap, rfl, _, _, _, hb2⟩
    have Hb2 := Lib.hid (Hb1.out.trans (hb2.mono Hb1.out.size))
    clear hb2 Hb1
    go_wp2_with fail
    go_ret
    exact ⟨rfl, Hb2.out⟩

/-- The cell of an owned row, written out. -/
theorem own_cell {w : World} {lo g n cap : Nat} {e : TypeId} {l : List UInt8} (h : Own w lo e (.slice (some ⟨g, 0, none⟩) n cap) (bs l)) {k : Nat} (hk : k < l.length) : w.cell? ⟨g, k, none⟩ = some (.int .u8 (l[k].toNat : Int)) := by
  obtain ⟨b, o, c, e, _, _, hu⟩ := h.rd.at_ (j := k) (by rw [bs_length]; exact hk)
  injection e with e
  injection e with e
  injection e with e1 e2
  subst e1 e2
  have := hu k _ (bs_at hk)
  rwa [Nat.zero_add] at this

set_option maxHeartbeats 3200000 in
set_option maxRecDepth 100000 in
theorem short_in (N D K : Nat) (c : UInt8) (w : World) (hn : N < 9223372036854775808) (h1 : 1 ≤ D) (h19 : D ≤ 19) (hf : N < 256 ^ D) (hK : K < D + 1) :
    Calls Try.prog 7 #[.int .i64 (N : Int), .int .i64 ((D : Int) + 1), .int .i64 (K : Int), .int .u8 (c.toNat : Int)] w fun e w' => e = .returned (.bool true) ∧ Below w.heap.size w w' := by
  have hlen : (putL (D + 1) N).length = D + 1 := putL_length (by omega)
  have Hf := Lib.hid hf
  have Hlen := Lib.hid hlen
  obtain ⟨y, hy⟩ : ∃ y : Int, y = (((putL (D + 1) N)[K]'(by rw [putL_length (Nat.le_add_left 1 D)]; exact hK)).toNat : Int) := ⟨_, rfl⟩
  obtain ⟨z, hz⟩ : ∃ z : Int, z = (c.toNat : Int) := ⟨_, rfl⟩
  have Hy := Lib.hid hy
  have Hz := Lib.hid hz
  rw [← hz]
  have g0 : decide ((K : Int) < 0) = false := by simp
  have g1 : decide ((D : Int) + 1 ≤ (K : Int)) = false := by simp; omega
  clear hf hlen hy hz
  by_cases hyz : y = z
  · have g2 : (y == z) = true := by simpa using hyz
    clear hyz
    go_enter Try.func7, Try.ntmps7
    go_wp2_with fail
    refine (awake_any w).mono ?_
    rintro e w1 ⟨rfl, hb1⟩
    have Hb1 := Lib.hid hb1
    clear hb1
    go_wp2_with fail
    refine (put_nat N D w1 hn h1 h19 Hf.out).mono ?_
    rintro e w2 ⟨g, cap, rfl, hv, _, _, hb2⟩
    have hcell := own_cell hv (k := K) (by rw [Hlen.out]; exact hK)
    rw [← Hy.out] at hcell
    have Hb2 := Lib.hid (Hb1.out.trans (hb2.mono Hb1.out.size))
    clear hb2 Hb1 hv
    go_wp2_with fail
    go_ret
    exact ⟨rfl, Hb2.out⟩
  · have g2 : (y == z) = false := by simpa using hyz
    have Hyz := Lib.hid hyz
    clear hyz
    go_enter Try.func7, Try.ntmps7
    go_wp2_with fail
    refine (awake_any w).mono ?_
    rintro e w1 ⟨rfl, hb1⟩
    have Hb1 := Lib.hid hb1
    clear hb1
    go_wp2_with fail
    refine (put_nat N D w1 hn h1 h19 Hf.out).mono ?_
    rintro e w2 ⟨g, cap, rfl, hv, _, _, hb2⟩
    have hcell := own_cell hv (k := K) (by rw [Hlen.out]; exact hK)
    rw [← Hy.out] at hcell
    have Hb2 := Lib.hid (Hb1.out.trans (hb2.mono Hb1.out.size))
    have Hv := Lib.hid hv
    clear hb2 Hb1 hv
    go_wp2_with (at_builtin; refine wpList_append_form (P := Try.prog) _ rfl (.const (.slice none 0 0)) (.tmp 47) 22 rfl w2.heap.size 5 (.int .u8 0) 1 Try.underlying22 byte_info rfl (.slice none 0 0) [] rfl (Own.nil _ _ _) _ _ (bs (putL (D + 1) N)) rfl Hv.out.rd (bs_one _) (D + 1) (by rw [List.nil_append, bs_length]; exact Hlen.out) (by omega) (by unfold maxLen; omega) (by omega) (Nat.le_refl _) ?_)
    intro g3 cap3 w3 hv3 hg3 hlo3 hlt3 _
    have hc3 := own_cell hv3 (k := K) (by rw [Hlen.out]; exact hK)
    rw [← Hy.out] at hc3
    have hbl : (bs (putL (D + 1) N)).length = D + 1 := by rw [bs_length, Hlen.out]
    have hfr3 : w3.frozen? ⟨g3, K, none⟩ = false := hv3.free_n hbl K hK
    have Hb3 : Hid (Below w.heap.size w w3) := Lib.hid (Hb2.out.grown hg3 Hb2.out.size (by simp [Value.ownBlock]))
    have Hv4 : Hid (Own (w3.setCell ⟨g3, K, none⟩ (.int .u8 z)) w2.heap.size 5 (.slice (some ⟨g3, 0, none⟩) (D + 1) cap3) (bs ((putL (D + 1) N).set K c))) := Lib.hid (by
      rw [bs_set, ← Hz.out]
      exact hv3.put_n hbl K (.int .u8 z))
    have Hb4 := Lib.hid (Hb3.out.setCell (p := ⟨g3, K, none⟩) (Nat.le_trans Hb2.out.size hlo3) (.int .u8 z))
    clear hv3 hg3 hlo3 hlt3 Hb3 hcell Hv hbl
    go_wp2_with fail
    by_cases hex : ∃ M, IsNum ((putL (D + 1) N).set K c) M
    · obtain ⟨M, hM⟩ := hex
      refine (get_yes _ M _ _ _ Hv4.out.rd (Nat.le_refl _) hM).mono ?_
      rintro e w5 ⟨rfl, hb5⟩
      have hMN : ((M : Int) != (N : Int)) = true := by
        have hne : M ≠ N := fun e => by
          subst e
          have h := hM.put
          rw [List.length_set, Hlen.out] at h
          have h2 := congrArg (fun l : List UInt8 => l[K]?) h
          simp only [List.getElem?_set_self (show K < (putL (D + 1) M).length by rw [Hlen.out]; exact hK)] at h2
          rw [List.getElem?_eq_getElem (by rw [Hlen.out]; exact hK)] at h2
          injection h2 with h2
          apply Hyz.out
          rw [Hy.out, Hz.out, h2]
        simp
        omega
      have Hb5 := Lib.hid (Hb4.out.trans (hb5.mono Hb4.out.size))
      clear hb5 Hb4 hM
      go_wp2_with fail
      go_ret
      exact ⟨rfl, Hb5.out⟩
    · refine (get_no _ _ _ _ Hv4.out.rd (Nat.le_refl _) (by rw [List.length_set, Hlen.out]; omega) (fun M hM => hex ⟨M, hM⟩)).mono ?_
      rintro e w5 ⟨rfl, hb5⟩
      have Hb5 := Lib.hid (Hb4.out.trans (hb5.mono Hb4.out.size))
      clear hb5 Hb4 hex
      go_wp2_with fail
      go_ret
      exact ⟨rfl, Hb5.out⟩

theorem short_walk (n wide k c : Int) (w : World) (hn : n < 9223372036854775808) (hc0 : 0 ≤ c) (hc1 : c ≤ 255) :
    Calls Try.prog 7 #[.int .i64 n, .int .i64 wide, .int .i64 k, .int .u8 c] w fun e w' => e = .returned (.bool true) ∧ Below w.heap.size w w' := by
  cases hp : putOk n wide
  · exact short_none n wide k c w hn hp
  · obtain ⟨h0, h2, h20, hf⟩ := putOk_iff.1 hp
    obtain ⟨N, rfl⟩ := Int.eq_ofNat_of_zero_le h0
    obtain ⟨D, hD⟩ : ∃ D : Nat, wide = (D : Int) + 1 := ⟨(wide - 1).toNat, by omega⟩
    subst hD
    rw [Int.toNat_natCast, show ((D : Int) + 1 - 1).toNat = D by omega] at hf
    by_cases hk : k < 0 ∨ (D : Int) + 1 ≤ k
    · exact short_away N D k c w (by omega) (by omega) (by omega) hf hk
    · obtain ⟨K, rfl⟩ := Int.eq_ofNat_of_zero_le (show 0 ≤ k by omega)
      obtain ⟨C, rfl⟩ := Int.eq_ofNat_of_zero_le hc0
      have hC : (C : Int) = ((UInt8.ofNat C).toNat : Int) := by rw [by_toNat (by omega)]
      rw [hC]
      exact short_in N D K (UInt8.ofNat C) w (by omega) (by omega) (by omega) hf (by omega)
end Go.Proofs.Ytdjbddnbilemaaa.Num
