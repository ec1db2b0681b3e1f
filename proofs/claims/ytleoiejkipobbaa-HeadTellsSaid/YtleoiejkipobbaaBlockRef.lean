/-
  Contracts of the document's answers for blocks (package reelkeeperref03): May, Zero, Many, Same, Zeros, Cut, Text: no statement is proved here.
-/
import Derived.Test.YtleoiejkipobbaaBlockS
namespace Go.Proofs.Ytleoiejkipobbaa.Block
open Go.RowKit Go.Shelf Go.Proofs.Ytleoiejkipobbaa.Base Go.Proofs.Ytleoiejkipobbaa.BlockM Go.Proofs.Ytleoiejkipobbaa.Str

set_option maxRecDepth 100000 in
theorem rmany_s (n : Int) (w : World) (hn : n < 9223372036854775808) (hn' : -9223372036854775808 ≤ n) :
    Calls Try.prog 87 #[.int .i64 n] w fun e w' => e = .returned (.int .i64 (manyV n)) ∧ Stp w w' := by
  have h0 := Stp.refl w
  by_cases h1 : n < 1
  · rw [manyV_neg h1]
    go_enter Try.func87, Try.ntmps87
    go_wp2_with fail
    go_ret
    exact ⟨rfl, h0⟩
  · by_cases h2 : n % 512 = 0
    · have e : manyV n = n / 512 := by simp [manyV, h1]; omega
      have g : decide (0 < n % 512) = false := decide_eq_false (by omega)
      rw [e]
      clear e
      go_enter Try.func87, Try.ntmps87
      go_wp2_with fail
      go_ret
      exact ⟨rfl, h0⟩
    · have e : manyV n = n / 512 + 1 := by simp [manyV, h1]; omega
      have g : decide (0 < n % 512) = true := decide_eq_true (by omega)
      rw [e]
      clear e
      go_enter Try.func87, Try.ntmps87
      go_wp2_with fail
      go_ret
      exact ⟨rfl, h0⟩

set_option maxRecDepth 100000 in
theorem rzero_s (l : L) (A : Option Addr) (c : Nat) (w : World) (ha : RdA w A c (bs l)) (hl : l.length < 9223372036854775808) :
    Calls Try.prog 52 #[.slice A l.length c] w fun e w' => e = .returned (.bool (zeroV l)) ∧ Stp w w' := by
  obtain ⟨r, hr⟩ : ∃ r, zeroV l = r := ⟨_, rfl⟩
  rw [hr]
  have Hr := Lib.hid hr
  clear hr
  go_enter Try.func52, Try.ntmps52
  go_wp2_with fail
  go_loopw [3] (fun i wr => ∃ k : Nat, k ≤ l.length ∧ i = .int .i64 k ∧ Stp w wr ∧ Hid (zeroV (l.take k) = true)) (fun i _ => l.length - (intOf i).toNat)
  case atStart => exact ⟨0, by omega, rfl, Stp.refl w, Lib.hid (by simp [zeroV])⟩
  case round =>
    obtain ⟨k, hk, rfl, h0, Hk⟩ := hrel
    by_cases hlt : k < l.length
    · obtain ⟨x, hl1⟩ : ∃ x, l[k]? = some x := ⟨_, List.getElem?_eq_getElem hlt⟩
      obtain ⟨b, o, rfl, hcell⟩ := (ha.keep h0).at_ (j := k) (by rw [bs_length]; exact hlt)
      have ca := hcell k (.int .u8 (x.toNat : Int)) (by rw [bs_at hlt, ← (List.getElem?_eq_some_iff.1 hl1).2])
      have Hs := Lib.hid (zeroV_step hl1 Hk.out)
      have Hl1 := Lib.hid hl1
      clear hl1 hcell
      by_cases h5 : x = 0
      · have g : ((x.toNat : Int) != 0) = false := by simp [h5]
        have H5 := Lib.hid h5
        clear h5
        go_wp2_with fail
        go_roundw
        case rel => exact ⟨k + 1, by omega, by go_num, h0, Lib.hid (by rw [Hs.out]; exact decide_eq_true H5.out)⟩
        case measure => simp [intOf]; omega
      · have g : ((x.toNat : Int) != 0) = true := by
          rw [bne_iff_ne]
          intro h
          exact h5 (UInt8.toNat_inj.1 (by show x.toNat = 0; omega))
        have H5 := Lib.hid h5
        clear h5
        go_wp2_with fail
        go_ret
        refine ⟨?_, h0⟩
        rw [← Hr.out, zeroV_no Hl1.out H5.out]
        rfl
    · obtain rfl : k = l.length := by omega
      go_wp2_with fail
      go_ret
      refine ⟨?_, h0⟩
      have h := Hk.out
      rw [List.take_length] at h
      rw [← Hr.out, h]
      rfl

set_option maxRecDepth 100000 in
set_option maxHeartbeats 1000000 in
theorem rsame_s (ls ms : List L) (A B : Option Addr) (c d : Nat) (w : World) (ha : RdL w A c ls) (hb : RdL w B d ms) (hl : ls.length < 9223372036854775808) (hm : ms.length < 9223372036854775808) :
    Calls Try.prog 29 #[.slice A ls.length c, .slice B ms.length d] w fun e w' => e = .returned (.bool (ls == ms)) ∧ Stp w w' := by
  have h0 := Stp.refl w
  by_cases hlen : ls.length = ms.length
  · have g0 : ((ls.length : Int) != (ms.length : Int)) = false := by simp [hlen]
    rw [← hlen]
    rw [← hlen] at g0
    obtain ⟨r, hr⟩ : ∃ r, (ls == ms) = r := ⟨_, rfl⟩
    rw [hr]
    have Hr := Lib.hid hr
    have Hlen := Lib.hid hlen
    clear hr hlen
    go_enter Try.func29, Try.ntmps29
    go_wp2_with fail
    go_loopw [5] (fun i wr => ∃ k : Nat, k ≤ ls.length ∧ i = .int .i64 k ∧ Stp w wr ∧ Hid (ls.take k = ms.take k)) (fun i _ => ls.length - (intOf i).toNat)
    case atStart => exact ⟨0, by omega, rfl, Stp.refl w, Lib.hid (by simp)⟩
    case round =>
      obtain ⟨k, hk, rfl, h0, Hk⟩ := hrel
      by_cases hlt : k < ls.length
      · obtain ⟨l, hl1⟩ : ∃ l, ls[k]? = some l := ⟨_, List.getElem?_eq_getElem hlt⟩
        obtain ⟨m, hm1⟩ : ∃ m, ms[k]? = some m := ⟨_, List.getElem?_eq_getElem (by rw [← Hlen.out]; exact hlt)⟩
        obtain ⟨b, o, A1, c1, rfl, ca, ra⟩ := (ha.keep h0).at_ hl1
        obtain ⟨b', o', B1, d1, rfl, cb, rb⟩ := (hb.keep h0).at_ hm1
        have hd : Stp wr wr.drew := Below.drew (Below.refl _ wr)
        have cv1 := str_rd (ra.keep hd)
        have cv2 := str_rd (rb.keep hd)
        have h1 := Stp.trans h0 hd
        clear hd
        have Hs := Lib.hid (take_succ_eq hl1 hm1 Hk.out)
        clear hl1 hm1 ra rb
        have i0 : (0 : Int) ≤ (k : Int) := by omega
        have i1 : (k : Int) < (ls.length : Int) := by omega
        cases he : (l == m)
        · have He := Lib.hid he
          have e : r = false := by
            rw [← Hr.out, beq_eq_false_iff_ne]
            rintro rfl
            have h := Hs.out.1 rfl
            have h2 := He.out
            rw [h] at h2
            simp at h2
          have E := Lib.hid e
          clear e
          go_wp2_with fail
          go_region
          all_goals go_wp2_with fail
          all_goals go_ret
          all_goals exact ⟨by rw [E.out]; rfl, h1⟩
        · have He := Lib.hid he
          go_wp2_with fail
          go_region
          all_goals go_wp2_with fail
          all_goals go_roundw
          all_goals first
            | exact ⟨k + 1, by omega, by go_num, h1, Lib.hid (Hs.out.2 (by simpa using He.out))⟩
            | (simp [intOf]; omega)
      · obtain rfl : k = ls.length := by omega
        go_wp2_with fail
        go_ret
        refine ⟨?_, h0⟩
        have e : r = true := by
          have h := Hk.out
          rw [List.take_length, Hlen.out, List.take_length] at h
          rw [← Hr.out, h]
          simp
        rw [e]
        rfl
  · have g0 : ((ls.length : Int) != (ms.length : Int)) = true := by simp; omega
    have e : (ls == ms) = false := by
      rw [beq_eq_false_iff_ne]
      rintro rfl
      exact hlen rfl
    rw [e]
    clear e
    go_enter Try.func29, Try.ntmps29
    go_wp2_with fail
    go_ret
    exact ⟨rfl, h0⟩
end Go.Proofs.Ytleoiejkipobbaa.Block
