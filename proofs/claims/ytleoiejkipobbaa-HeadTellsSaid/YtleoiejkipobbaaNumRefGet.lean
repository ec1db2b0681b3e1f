/-
  The contract of the document's Get (package reelkeeperref01): no statement is proved here.
-/
import Derived.Test.YtleoiejkipobbaaNumRef
namespace Go.Proofs.Ytleoiejkipobbaa.Num
open Go.RowKit Go.Proofs.Ytleoiejkipobbaa.Base Go.Proofs.Ytleoiejkipobbaa.NumM

/-- What Get answers for these bytes. -/
def GetIs (l : List UInt8) (e : Ending) : Prop := (∀ N, IsNum l N → e = .returned (.tuple #[.int .i64 (N : Int), .bool true])) ∧ ((∀ N, ¬ IsNum l N) → e = .returned (.tuple #[.int .i64 0, .bool false]))
theorem getIs_no {l : List UInt8} (h : ∀ N, ¬ IsNum l N) : GetIs l (.returned (.tuple #[.int .i64 0, .bool false])) := ⟨fun N hN => absurd hN (h N), fun _ => rfl⟩

/-- The value that was read, behind k bytes. -/
def Val (l : List UInt8) (k : Nat) (g : Int) : Prop := ∀ N, IsNum l N → (l[0]? = some 128 → g = ((N / 256 ^ (l.length - k) : Nat) : Int)) ∧ (l[0]? ≠ some 128 → g = ((N / 8 ^ (l.length - 1 - k) : Nat) : Int))

theorem val_zero (l : List UInt8) : Val l 0 0 := by
  intro N hN
  refine ⟨fun _ => ?_, fun h => ?_⟩
  · have h1 := hN.fits
    have h2 : (256 : Nat) ^ (l.length - 1) ≤ 256 ^ (l.length - 0) := Nat.pow_le_pow_right (by omega) (by omega)
    rw [Nat.div_eq_of_lt (by omega)]
    rfl
  · have h1 := (hN.few h).1
    rw [Nat.sub_zero, Nat.div_eq_of_lt h1]
    rfl
theorem val_mark_first {l : List UInt8} {g : Int} (h0 : l[0]? = some 128) (h : Val l 0 g) : Val l 1 g := by
  intro N hN
  refine ⟨fun _ => ?_, fun h => absurd h0 h⟩
  have h1 := hN.fits
  have h2 : (256 : Nat) ^ (l.length - 1) ≤ 256 ^ (l.length - 0) := Nat.pow_le_pow_right (by omega) (by omega)
  rw [(h N hN).1 h0, Nat.div_eq_of_lt (by omega), Nat.div_eq_of_lt h1]
theorem val_mark_next {l : List UInt8} {k : Nat} {g y : Int} (h0 : l[0]? = some 128) (hk : k + 1 < l.length) (hy : y = (l[k + 1].toNat : Int)) (h : Val l (k + 1) g) : Val l (k + 1 + 1) (wrap64 (wrap64 (256 * g) + y)) := by
  intro N hN
  refine ⟨fun _ => ?_, fun h => absurd h0 h⟩
  have e := (step_fold 256 N (l.length - (k + 1 + 1)) g y hN.small (by rw [(h N hN).1 h0, show l.length - (k + 1 + 1) + 1 = l.length - (k + 1) by omega]) (by
    rw [hy, hN.mark_at h0 (k := k) hk hk, show l.length - 2 - k = l.length - (k + 1 + 1) by omega])).1
  rw [Int.mul_comm]
  exact e
theorem val_few_next {l : List UInt8} {k : Nat} {g y : Int} (h0 : l[0]? ≠ some 128) (hk : k + 1 < l.length) (hy : y = (l[k].toNat : Int)) (h : Val l k g) : Val l (k + 1) (wrap64 (wrap64 (8 * g) + (y - 48))) := by
  intro N hN
  refine ⟨fun h => absurd h h0, fun _ => ?_⟩
  have hg := (h N hN).2 h0
  have hy2 : y - 48 = ((N / 8 ^ (l.length - 2 - k) % 8 : Nat) : Int) := by
    rw [hy, hN.few_at h0 (k := k) (by omega) (by omega)]; omega
  have e := (step_fold 8 N (l.length - 2 - k) g (y - 48) hN.small (by rw [hg, show l.length - 2 - k + 1 = l.length - 1 - k by omega]) hy2).1
  rw [Int.mul_comm, show l.length - 1 - (k + 1) = l.length - 2 - k by omega]
  exact e
theorem val_few_last {l : List UInt8} {k : Nat} {g : Int} (h0 : l[0]? ≠ some 128) (hk : l.length ≤ k + 1) (h : Val l k g) : Val l (k + 1) g := by
  intro N hN
  refine ⟨fun h => absurd h h0, fun _ => ?_⟩
  rw [(h N hN).2 h0, show l.length - 1 - (k + 1) = l.length - 1 - k by omega]
theorem val_few_none {l : List UInt8} {k : Nat} {g' y : Int} (h0 : l[0]? ≠ some 128) (hk : k + 1 < l.length) (hy : y = (l[k].toNat : Int)) (hb : y < 48 ∨ 55 < y) : Val l (k + 1) g' := by
  intro N hN
  exfalso
  have := hN.few_at h0 (k := k) (by omega) (by omega)
  have h8 := Nat.mod_lt (N / 8 ^ (l.length - 2 - k)) (show 0 < 8 by omega)
  omega
theorem val_big {l : List UInt8} {k : Nat} {g : Int} (h0 : l[0]? = some 128) (hk : k < l.length) (hg : 36028797018963967 < g) (h : Val l k g) : ∀ N, ¬ IsNum l N := by
  intro N hN
  have h1 := (h N hN).1 h0
  obtain ⟨m, hm⟩ : ∃ m, l.length - k = m + 1 := ⟨l.length - k - 1, by omega⟩
  rw [hm, Nat.pow_succ, ← Nat.div_div_eq_div_mul] at h1
  have h2 := Nat.div_le_self N (256 ^ m)
  have h3 := hN.small
  generalize N / 256 ^ m = q at h1 h2
  omega

set_option maxHeartbeats 3200000 in
set_option maxRecDepth 100000 in
theorem rget_in (l : List UInt8) (v : Value) (B : Nat) (w : World) (hv : Rd w B v (bs l)) (hB : B ≤ w.heap.size) (h2 : 2 ≤ l.length) (h20 : l.length ≤ 20) :
    Calls Try.prog 81 #[v] w fun e w' => GetIs l e ∧ Below w.heap.size w w' := by
  have Hv := Lib.hid hv
  obtain ⟨b, o, cap, rfl, _, _, hc⟩ := hv.at_ (j := 0) (by rw [bs_length]; omega)
  rw [bs_length] at Hv ⊢
  have Hc : Hid (∀ j (hj : j < l.length), w.cell? ⟨b, o + j, none⟩ = some (.int .u8 (l[j].toNat : Int))) := Lib.hid fun j hj => hc j _ (bs_at hj)
  clear hc hv
  have hpos : 0 < l.length := by omega
  have hc0 : w.cell? ⟨b, o, none⟩ = some (.int .u8 ((l[0]'hpos).toNat : Int)) := Hc.out 0 hpos
  obtain ⟨n, hn⟩ : ∃ n, l.length = n + 1 := ⟨l.length - 1, by omega⟩
  obtain ⟨y0, hy0⟩ : ∃ y : Int, y = ((l[0]'hpos).toNat : Int) := ⟨_, rfl⟩
  have hy0l : 0 ≤ y0 := by omega
  have hy0h : y0 ≤ 255 := by have := (l[0]'hpos).toNat_lt; omega
  rw [← hy0] at hc0
  have hn1 : 1 ≤ n := by omega
  have hn19 : n ≤ 19 := by omega
  have Hy0 := Lib.hid hy0
  have Hn := Lib.hid hn
  have H2 := Lib.hid h2
  have H20 := Lib.hid h20
  rw [hn] at Hv ⊢
  clear hy0 hn h2 h20
  have a1 : decide ((n : Int) + 1 < 2) = false := by simp; omega
  have a2 : decide ((20 : Int) < (n : Int) + 1) = false := by simp; omega
  have a3 : ¬ ((n : Int) + 1 < 2) := by omega
  go_enter Try.func81, Try.ntmps81
  go_wp2_with fail
  clear a1 a2 a3
  go_loop [4, 5] (fun r i => ∃ (k : Nat) (g : Int), k ≤ n + 1 ∧ i = .int .i64 k ∧ r = .int .i64 g ∧ -9223372036854775808 ≤ g ∧ g < 9223372036854775808 ∧ Hid (Val l k g))
    (fun _ i => n + 1 - (intOf i).toNat)
  case atStart => exact ⟨0, 0, by omega, rfl, rfl, by omega, by omega, Lib.hid (val_zero l)⟩
  case round =>
    obtain ⟨k, g, hk, rfl, rfl, hg0, hg1, Hg⟩ := hrel
    by_cases hlt : k < n + 1
    · have c0 : decide ((k : Int) < (n : Int) + 1) = true := by simp; omega
      have hck : w.cell? ⟨b, o + k, none⟩ = some (.int .u8 ((l[k]'(by have := Hn.out; omega)).toNat : Int)) := Hc.out k (by have := Hn.out; omega)
      obtain ⟨y, hy⟩ : ∃ y : Int, y = ((l[k]'(by have := Hn.out; omega)).toNat : Int) := ⟨_, rfl⟩
      have hyl : 0 ≤ y := by omega
      have hyh : y ≤ 255 := by have := (l[k]'(by have := Hn.out; omega)).toNat_lt; omega
      rw [← hy] at hck
      have Hy := Lib.hid hy
      clear hy
      by_cases hm : y0 = 128
      · have h0 : l[0]? = some 128 := first_is (by have := H2.out; omega) (hm ▸ Hy0.out)
        have H0 := Lib.hid h0
        have m1 : (y0 == 128) = true := by simpa using hm
        have m2 : (y0 != 128) = false := by simpa using hm
        clear h0 hm
        by_cases hbig : 36028797018963967 < g
        · have b1 : decide (36028797018963967 < g) = true := by simpa using hbig
          have Hbig := Lib.hid hbig
          clear hbig
          go_wp2_with fail
          go_ret2
          exact ⟨getIs_no (val_big H0.out (by have := Hn.out; omega) Hbig.out Hg.out), Below.refl _ _⟩
        · have b1 : decide (36028797018963967 < g) = false := by simpa using hbig
          clear hbig
          by_cases hk0 : k = 0
          · subst hk0
            go_wp2_with fail
            go_round
            case rel => exact ⟨1, g, by omega, by go_num, rfl, hg0, hg1, Lib.hid (val_mark_first H0.out Hg.out)⟩
            case measure => simp [intOf]
          · have k1 : decide ((0 : Int) < (k : Int)) = true := by simp; omega
            have k2 : 0 < k := by omega
            have k3 : decide (0 < k) = true := by simpa using k2
            have Hk0 := Lib.hid hk0
            clear hk0
            go_wp2_with fail
            go_round
            case rel =>
              refine ⟨k + 1, wrap64 (wrap64 (256 * g) + y), by omega, by go_num, rfl, (wrap64_range _).1, (wrap64_range _).2, Lib.hid ?_⟩
              obtain ⟨j, rfl⟩ : ∃ j, k = j + 1 := ⟨k - 1, by have := Hk0.out; omega⟩
              exact val_mark_next H0.out (by have := Hn.out; omega) Hy.out Hg.out
            case measure => simp [intOf]; omega
      · have h0 : l[0]? ≠ some 128 := first_not (by have := H2.out; omega) Hy0.out hm
        have H0 := Lib.hid h0
        have m1 : (y0 == 128) = false := by simpa using hm
        have m2 : (y0 != 128) = true := by simpa using hm
        clear h0 hm
        by_cases hlast : k < n
        · have l1 : decide ((k : Int) < (n : Int)) = true := by simpa using hlast
          by_cases hlo : 48 ≤ y
          · have d1 : decide (48 ≤ y) = true := by simpa using hlo
            by_cases hhi : y ≤ 55
            · have d2 : decide (y ≤ 55) = true := by simpa using hhi
              go_wp2_with fail
              go_round
              case rel =>
                refine ⟨k + 1, wrap64 (wrap64 (8 * g) + (y - 48)), by omega, by go_num, rfl, (wrap64_range _).1, (wrap64_range _).2, Lib.hid ?_⟩
                exact val_few_next H0.out (by have := Hn.out; omega) Hy.out Hg.out
              case measure => simp [intOf]; omega
            · have d2 : decide (y ≤ 55) = false := by simpa using hhi
              go_wp2_with fail
              go_round
              case rel => exact ⟨k + 1, g, by omega, by go_num, rfl, hg0, hg1, Lib.hid (val_few_none (k := k) H0.out (by have := Hn.out; omega) Hy.out (by omega))⟩
              case measure => simp [intOf]; omega
          · have d1 : decide (48 ≤ y) = false := by simpa using hlo
            go_wp2_with fail
            go_round
            case rel => exact ⟨k + 1, g, by omega, by go_num, rfl, hg0, hg1, Lib.hid (val_few_none (k := k) H0.out (by have := Hn.out; omega) Hy.out (by omega))⟩
            case measure => simp [intOf]; omega
        · have l1 : decide ((k : Int) < (n : Int)) = false := by simpa using hlast
          go_wp2_with fail
          go_round
          case rel => exact ⟨k + 1, g, by omega, by go_num, rfl, hg0, hg1, Lib.hid (val_few_last H0.out (by have := Hn.out; omega) Hg.out)⟩
          case measure => simp [intOf]; omega
    · obtain rfl : k = n + 1 := by omega
      go_wp2_with fail
      have Hval : Hid (∀ N, IsNum l N → g = (N : Int)) := Lib.hid fun N hN => by
        have h := Hg.out N hN
        have hl := Hn.out
        by_cases h0 : l[0]? = some 128
        · rw [h.1 h0, show l.length - (n + 1) = 0 by omega, Nat.pow_zero, Nat.div_one]
        · rw [h.2 h0, show l.length - 1 - (n + 1) = 0 by omega, Nat.pow_zero, Nat.div_one]
      clear Hg
      cases hp : putOk g ((n : Int) + 1)
      · refine (rput_no g ((n : Int) + 1) w hg1 hp).mono ?_
        rintro e w1 ⟨rfl, hb1⟩
        have Hno : Hid (∀ N, ¬ IsNum l N) := Lib.hid fun N hN => by
          have h := putOk_num hN
          rw [← Hval.out N hN, Hn.out, show (((n + 1 : Nat)) : Int) = (n : Int) + 1 by omega, hp] at h
          cases h
        have Hb1 := Lib.hid hb1
        clear hb1 hp
        go_wp2_with fail
        go_ret2
        exact ⟨getIs_no Hno.out, Hb1.out⟩
      · refine (rput_yes g ((n : Int) + 1) w hg1 hp).mono ?_
        rintro e w1 ⟨r, rfl, hr, hb1⟩
        obtain ⟨p0, p2, p20, pf⟩ := putOk_iff.1 hp
        obtain ⟨G, rfl⟩ := Int.eq_ofNat_of_zero_le p0
        rw [Int.toNat_natCast, show ((n : Int) + 1 - 1).toNat = n by omega] at pf
        rw [Int.toNat_natCast, show ((n : Int) + 1).toNat = n + 1 by omega] at hr
        have hcr := str_of w1 _ _ _ hr.rd
        have hcb := str_of w1 _ _ _ (Hv.out.keep (hb1.mono hB))
        have Hb1 := Lib.hid hb1
        by_cases hput : putL (n + 1) G = l
        · have Hnum : Hid (IsNum l G) := Lib.hid ⟨H2.out, H20.out, by omega, by rw [Hn.out, Nat.add_sub_cancel]; exact pf, by rw [Hn.out]; exact hput⟩
          rw [hput] at hcr
          clear hb1 hr hp pf p0 p2 p20 hput
          go_wp2_with fail
          go_ret2
          refine ⟨⟨fun N hN => ?_, fun h => absurd Hnum.out (h G)⟩, Hb1.out⟩
          rw [hN.same Hnum.out]
          rfl
        · have hne := str_ne hput
          have Hno : Hid (∀ N, ¬ IsNum l N) := Lib.hid fun N hN => by
            have h := Hval.out N hN
            obtain rfl : G = N := by omega
            apply hput
            rw [← Hn.out]
            exact hN.put
          clear hb1 hr hp pf p0 p2 p20 hput
          generalize putL (n + 1) G = q at hcr hne
          go_wp2_with fail
          go_ret2
          exact ⟨getIs_no Hno.out, Hb1.out⟩

set_option maxHeartbeats 1600000 in
set_option maxRecDepth 100000 in
theorem rget_any (l : List UInt8) (v : Value) (B : Nat) (w : World) (hv : Rd w B v (bs l)) (hB : B ≤ w.heap.size) (hbig : l.length < 9223372036854775808) :
    Calls Try.prog 81 #[v] w fun e w' => GetIs l e ∧ Below w.heap.size w w' := by
  by_cases h2 : l.length < 2
  · have Hno : Hid (∀ N, ¬ IsNum l N) := Lib.hid fun N hN => by have := hN.two; omega
    obtain ⟨A, cap, rfl, _, _⟩ := hv
    rw [bs_length]
    have a1 : decide ((l.length : Int) < 2) = true := by simp; omega
    go_enter Try.func81, Try.ntmps81
    go_wp2_with fail
    go_ret2
    exact ⟨getIs_no Hno.out, Below.refl _ _⟩
  · by_cases h20 : 20 < l.length
    · have Hno : Hid (∀ N, ¬ IsNum l N) := Lib.hid fun N hN => by have := hN.most; omega
      obtain ⟨A, cap, rfl, _, _⟩ := hv
      rw [bs_length]
      have a1 : decide ((l.length : Int) < 2) = false := by simp; omega
      have a2 : decide ((20 : Int) < (l.length : Int)) = true := by simp; omega
      go_enter Try.func81, Try.ntmps81
      go_wp2_with fail
      go_ret2
      exact ⟨getIs_no Hno.out, Below.refl _ _⟩
    · exact rget_in l v B w hv hB (by omega) (by omega)
end Go.Proofs.Ytleoiejkipobbaa.Num
