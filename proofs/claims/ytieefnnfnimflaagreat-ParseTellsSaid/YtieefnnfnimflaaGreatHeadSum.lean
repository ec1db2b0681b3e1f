/-
  Contracts: a block's sum, and how it is written, of package head and of the document's answers: no statement is proved here.
-/
import Derived.Test.YtieefnnfnimflaaGreatHeadLib
namespace Go.Proofs.YtieefnnfnimflaaGreat.Head
open Go.RowKit Go.Proofs.YtieefnnfnimflaaGreat.Base Go.Proofs.YtieefnnfnimflaaGreat.NumM Go.Proofs.YtieefnnfnimflaaGreat.Num

/-- The sum of the first k bytes. -/
def sumTo (b : L) (k : Nat) : Nat := 256 + tot ((b.take k).take 148) + tot ((b.take k).drop 156)
theorem sumTo_all (b : L) (h : b.length = 512) : sumTo b 512 = sumN b := by unfold sumTo sumN; rw [List.take_of_length_le (Nat.le_of_eq h)]
theorem sumTo_zero (b : L) : sumTo b 0 = 256 := by simp [sumTo, tot]
theorem sumTo_step {b : L} {k : Nat} {x : UInt8} (hx : b[k]? = some x) : sumTo b (k + 1) = sumTo b k + if k < 148 ∨ 156 ≤ k then x.toNat else 0 := by
  have hk := (List.getElem?_eq_some_iff.1 hx).1
  have hl : (b.take k).length = k := by rw [List.length_take]; omega
  have e : b.take (k + 1) = b.take k ++ [x] := by rw [List.take_add_one, hx]; rfl
  unfold sumTo
  rw [e]
  by_cases h1 : k < 148
  · have a1 : (b.take k ++ [x]).take 148 = b.take k ++ [x] := List.take_of_length_le (by rw [List.length_append, hl]; simp; omega)
    have a2 : (b.take k).take 148 = b.take k := List.take_of_length_le (by omega)
    have a3 : (b.take k ++ [x]).drop 156 = [] := List.drop_eq_nil_of_le (by rw [List.length_append, hl]; simp; omega)
    have a4 : (b.take k).drop 156 = [] := List.drop_eq_nil_of_le (by omega)
    rw [a1, a2, a3, a4, tot_append, if_pos (by omega)]
    simp [tot]
    omega
  · rw [List.take_append_of_le_length (by omega)]
    by_cases h2 : k < 156
    · have a3 : (b.take k ++ [x]).drop 156 = [] := List.drop_eq_nil_of_le (by rw [List.length_append, hl]; simp; omega)
      have a4 : (b.take k).drop 156 = [] := List.drop_eq_nil_of_le (by omega)
      rw [a3, a4, if_neg (by omega), Nat.add_zero]
    · rw [List.drop_append_of_le_length (by omega), tot_append, if_pos (by omega)]
      simp [tot]
      omega
theorem sumTo_le {b : L} {k : Nat} (h : k ≤ 512) : sumTo b k ≤ 262144 := by
  have h1 := tot_le ((b.take k).take 148)
  have h2 := tot_le ((b.take k).drop 156)
  simp only [List.length_take, List.length_drop] at h1 h2
  unfold sumTo
  omega
theorem sumI_no {b : L} (h : b.length ≠ 512) : sumI b = -1 := if_neg h
theorem sumI_yes {b : L} (h : b.length = 512) : sumI b = (sumN b : Int) := if_pos h

/-- How much of the sum's own places is summed up at k. -/
def own (k : Nat) : Nat := if k < 148 then 256 else if k < 156 then 32 * (156 - k) else 0
def SumRel (l : L) (w : World) (s i : Value) (wr : World) : Prop := ∃ (k z : Nat), k ≤ l.length ∧ i = .int .i64 (k : Int) ∧ s = .int .i64 (z : Int) ∧ z ≤ 262144 ∧ Stp w wr ∧ Hid (z = sumTo l k)
def RSumRel (l : L) (w : World) (s i : Value) (wr : World) : Prop := ∃ (k z : Nat), k ≤ 512 ∧ i = .int .i64 (k : Int) ∧ s = .int .i64 (z : Int) ∧ z ≤ 262144 ∧ Stp w wr ∧ Hid (z + own k = sumTo l k)

set_option maxRecDepth 100000 in
set_option maxHeartbeats 1000000 in
theorem sum_s (l : L) (A : Option Addr) (c : Nat) (w : World) (ha : RdA w A c (bs l)) (hl : l.length < 9223372036854775808) :
    Calls Tryz.prog 145 #[.slice A l.length c] w fun e w' => e = .returned (.int .i64 (sumI l)) ∧ Stp w w' := by
  by_cases h512 : l.length = 512
  · rw [sumI_yes h512]
    obtain ⟨r, hr⟩ : ∃ r : Int, (sumN l : Int) = r := ⟨_, rfl⟩
    rw [hr]
    have Hr := Lib.hid hr
    have g0 : ((l.length : Int) != 512) = false := by simp; omega
    have H512 := Lib.hid h512
    clear hr h512
    go_enter Tryz.func145, Tryz.ntmps145
    go_wp2_with fail
    go_loopw [3, 4, 5, 11] (fun s _ _ i wr => SumRel l w s i wr) (fun _ _ _ i _ => l.length - (intOf i).toNat)
    case atStart => exact ⟨0, 256, by omega, rfl, rfl, by omega, Stp.refl w, Lib.hid (sumTo_zero l).symm⟩
    case round =>
      obtain ⟨k, z, hk, rfl, rfl, hz, h0, Hk⟩ := hrel
      by_cases hlt : k < l.length
      · obtain ⟨x, hl1⟩ : ∃ x, l[k]? = some x := ⟨_, List.getElem?_eq_getElem hlt⟩
        obtain ⟨b, o, rfl, hcell⟩ := (ha.keep h0).at_ (j := k) (by rw [bs_length]; exact hlt)
        have ca := hcell k (.int .u8 (x.toNat : Int)) (by rw [bs_at hlt, ← (List.getElem?_eq_some_iff.1 hl1).2])
        have Hs := Lib.hid (sumTo_step hl1)
        have Hb := Lib.hid (sumTo_le (b := l) (k := k + 1) (by have := H512.out; omega))
        have hx1 : x.toNat ≤ 255 := by have := x.toNat_lt; omega
        obtain ⟨y, hy⟩ : ∃ y : Nat, x.toNat = y := ⟨_, rfl⟩
        rw [hy] at ca hx1
        have Hy := Lib.hid hy
        clear hl1 hcell hy
        by_cases h1 : k < 148
        · have R := Lib.hid (show SumRel l w (.int .i64 ((z : Int) + (y : Int))) (.int .i64 ((k : Int) + 1)) wr from ⟨k + 1, z + y, by omega, by go_num, by go_num, by have := Hb.out; rw [Hs.out, if_pos (by omega), Hy.out, ← Hk.out] at this; omega, h0, Lib.hid (by rw [Hs.out, if_pos (by omega), Hy.out, Hk.out])⟩)
          go_wp2_with fail
          go_roundw
          · first
              | exact R.out
              | (repeat apply Exists.intro
                 refine ⟨R.out, ?_⟩
                 repeat' first | rfl | constructor)
          · simp [intOf]; omega
        · by_cases h2 : k < 156
          · have R := Lib.hid (show SumRel l w (.int .i64 ((z : Int))) (.int .i64 ((k : Int) + 1)) wr from ⟨k + 1, z, by omega, by go_num, by go_num, hz, h0, Lib.hid (by rw [Hs.out, if_neg (by omega), Hk.out]; rfl)⟩)
            go_wp2_with fail
            go_roundw
            · first
                | exact R.out
                | (repeat apply Exists.intro
                   refine ⟨R.out, ?_⟩
                   repeat' first | rfl | constructor)
            · simp [intOf]; omega
          · have R := Lib.hid (show SumRel l w (.int .i64 ((z : Int) + (y : Int))) (.int .i64 ((k : Int) + 1)) wr from ⟨k + 1, z + y, by omega, by go_num, by go_num, by have := Hb.out; rw [Hs.out, if_pos (by omega), Hy.out, ← Hk.out] at this; omega, h0, Lib.hid (by rw [Hs.out, if_pos (by omega), Hy.out, Hk.out])⟩)
            go_wp2_with fail
            go_roundw
            · first
                | exact R.out
                | (repeat apply Exists.intro
                   refine ⟨R.out, ?_⟩
                   repeat' first | rfl | constructor)
            · simp [intOf]; omega
      · obtain rfl : k = l.length := by omega
        go_wp2_with fail
        go_ret
        refine ⟨?_, h0⟩
        rw [← Hr.out, Hk.out, H512.out, sumTo_all l H512.out]
        rfl
  · rw [sumI_no h512]
    have g0 : ((l.length : Int) != 512) = true := by simp; omega
    clear h512
    have h0 := Stp.refl w
    go_enter Tryz.func145, Tryz.ntmps145
    go_wp2_with fail
    go_ret
    exact ⟨rfl, h0⟩

set_option maxRecDepth 100000 in
set_option maxHeartbeats 1000000 in
theorem rsum_s (l : L) (A : Option Addr) (c : Nat) (w : World) (ha : RdA w A c (bs l)) :
    Calls Tryz.prog 69 #[.slice A l.length c] w fun e w' => e = .returned (.int .i64 (sumI l)) ∧ Stp w w' := by
  by_cases h512 : l.length = 512
  · rw [sumI_yes h512]
    obtain ⟨r, hr⟩ : ∃ r : Int, (sumN l : Int) = r := ⟨_, rfl⟩
    rw [hr]
    have Hr := Lib.hid hr
    have g0 : ((l.length : Int) != 512) = false := by simp; omega
    have H512 := Lib.hid h512
    clear hr h512
    go_enter Tryz.func69, Tryz.ntmps69
    go_wp2_with fail
    go_loopw [3, 4] (fun s i wr => RSumRel l w s i wr) (fun _ i _ => 512 - (intOf i).toNat)
    case atStart => exact ⟨0, 0, by omega, rfl, rfl, by omega, Stp.refl w, Lib.hid (by rw [sumTo_zero]; rfl)⟩
    case round =>
      obtain ⟨k, z, hk, rfl, rfl, hz, h0, Hk⟩ := hrel
      by_cases hlt : k < 512
      · have hkl : k < l.length := by have := H512.out; omega
        obtain ⟨x, hl1⟩ : ∃ x, l[k]? = some x := ⟨_, List.getElem?_eq_getElem (by have := H512.out; omega)⟩
        obtain ⟨b, o, rfl, hcell⟩ := (ha.keep h0).at_ (j := k) (by rw [bs_length]; have := H512.out; omega)
        have ca := hcell k (.int .u8 (x.toNat : Int)) (by rw [bs_at (by have := H512.out; omega), ← (List.getElem?_eq_some_iff.1 hl1).2])
        have Hs := Lib.hid (sumTo_step hl1)
        have Hb := Lib.hid (sumTo_le (b := l) (k := k + 1) (by omega))
        have hx1 : x.toNat ≤ 255 := by have := x.toNat_lt; omega
        obtain ⟨y, hy⟩ : ∃ y : Nat, x.toNat = y := ⟨_, rfl⟩
        rw [hy] at ca hx1
        have Hy := Lib.hid hy
        clear hl1 hcell hy
        by_cases h1 : k < 148
        · have key : z + y + own (k + 1) = sumTo l (k + 1) := by
            rw [Hs.out, if_pos (by omega), Hy.out, ← Hk.out]
            unfold own
            rw [if_pos h1]
            split
            · omega
            · rw [if_pos (by omega)]; omega
          have Key := Lib.hid key
          clear key
          have R := Lib.hid (show RSumRel l w (.int .i64 ((z : Int) + (y : Int))) (.int .i64 ((k : Int) + 1)) wr from ⟨k + 1, z + y, by omega, by go_num, by go_num, by have := Hb.out; have := Key.out; omega, h0, Key⟩)
          go_wp2_with fail
          go_roundw
          · first
              | exact R.out
              | (repeat apply Exists.intro
                 refine ⟨R.out, ?_⟩
                 repeat' first | rfl | constructor)
          · simp [intOf]; omega
        · by_cases h2 : k < 156
          · have key : z + 32 + own (k + 1) = sumTo l (k + 1) := by
              rw [Hs.out, if_neg (by omega), ← Hk.out]
              unfold own
              rw [if_neg (by omega), if_neg h1, if_pos h2]
              split
              · omega
              · omega
            have Key := Lib.hid key
            clear key
            have R := Lib.hid (show RSumRel l w (.int .i64 ((z : Int) + 32)) (.int .i64 ((k : Int) + 1)) wr from ⟨k + 1, z + 32, by omega, by go_num, by go_num, by have := Hb.out; have := Key.out; omega, h0, Key⟩)
            go_wp2_with fail
            go_roundw
            · first
                | exact R.out
                | (repeat apply Exists.intro
                   refine ⟨R.out, ?_⟩
                   repeat' first | rfl | constructor)
            · simp [intOf]; omega
          · have key : z + y + own (k + 1) = sumTo l (k + 1) := by
              rw [Hs.out, if_pos (by omega), Hy.out, ← Hk.out]
              unfold own
              rw [if_neg h1, if_neg h2, if_neg (by omega), if_neg (by omega)]
              omega
            have Key := Lib.hid key
            clear key
            have R := Lib.hid (show RSumRel l w (.int .i64 ((z : Int) + (y : Int))) (.int .i64 ((k : Int) + 1)) wr from ⟨k + 1, z + y, by omega, by go_num, by go_num, by have := Hb.out; have := Key.out; omega, h0, Key⟩)
            go_wp2_with fail
            go_roundw
            · first
                | exact R.out
                | (repeat apply Exists.intro
                   refine ⟨R.out, ?_⟩
                   repeat' first | rfl | constructor)
            · simp [intOf]; omega
      · obtain rfl : k = 512 := by omega
        go_wp2_with fail
        go_ret
        refine ⟨?_, h0⟩
        have h := Hk.out
        rw [sumTo_all l H512.out] at h
        rw [← Hr.out, ← h]
        rfl
  · rw [sumI_no h512]
    have g0 : ((l.length : Int) != 512) = true := by simp; omega
    clear h512
    have h0 := Stp.refl w
    go_enter Tryz.func69, Tryz.ntmps69
    go_wp2_with fail
    go_ret
    exact ⟨rfl, h0⟩

theorem octV_sum {b : L} (h : b.length = 512) : octV (sumI b) 6 = ⟨(octs 6 (sumN b)).toArray⟩ := by
  have hle := sumN_le h
  rw [sumI_yes h]
  unfold octV
  rw [if_pos (octOk_iff.2 ⟨by omega, by omega, by omega, by show (sumN b : Int).toNat < 8 ^ 6; omega⟩)]
  rfl

set_option maxHeartbeats 1000000 in
set_option maxRecDepth 100000 in
theorem sumText_s (l : L) (A : Option Addr) (c : Nat) (w : World) (ha : RdA w A c (bs l)) (h512 : l.length = 512) :
    Calls Tryz.prog 122 #[.slice A l.length c] w fun e w' => e = .returned (.string ⟨(sumT l).toArray⟩) ∧ Stp w w' := by
  have h0 := Stp.refl w
  have hle := sumN_le h512
  have hov := octV_sum h512
  have hsi := sumI_yes h512
  obtain ⟨s, hs⟩ : ∃ s, octs 6 (sumN l) = s := ⟨_, rfl⟩
  have hsl : s.length = 6 := by rw [← hs, octs_length]
  have hT : sumT l = s ++ [0, 32] := by rw [← hs]; rfl
  rw [hT]
  rw [hs] at hov
  obtain ⟨i, hi⟩ : ∃ i, sumI l = i := ⟨_, rfl⟩
  rw [hi] at hov hsi
  have hi2 : i < 9223372036854775808 := by omega
  obtain ⟨ok, hok⟩ : ∃ ok, octOk i 6 = ok := ⟨_, rfl⟩
  have hadd := Str.add_ll s [0, 32] (by rw [hsl]; simp)
  have Hov := Lib.hid hov
  have Hi := Lib.hid hi
  have Hi2 := Lib.hid hi2
  have Hok := Lib.hid hok
  have hl63 : l.length < 9223372036854775808 := by omega
  clear hov hi hi2 hok hs hT hle hsi hsl h512
  go_enter Tryz.func122, Tryz.ntmps122
  go_wp2_with (first
    | (go_at_call 145; refine (sum_s l _ _ _ ha hl63).mono ?_; rintro e w' ⟨rfl, hs⟩; replace h0 := Stp.trans h0 hs; clear hs; rw [Hi.out])
    | (go_at_call 144; refine (oct_all i 6 _ Hi2.out).mono ?_; rintro e w' ⟨rfl, hs⟩; replace h0 := Stp.trans h0 hs; clear hs; rw [Hov.out, Hok.out]))
  go_ret
  exact ⟨rfl, h0⟩
end Go.Proofs.YtieefnnfnimflaaGreat.Head
