/-
  What the library's functions on slices of bytes return at this program's numbers (bytes.Equal, slices.EqualFunc over it), and package block's May, Same, Zero, Many: no statement is proved here.
-/
import Derived.Test.YtleoiejkipobbaaProg
import Derived.Test.YtleoiejkipobbaaLists
import Derived.Test.YtleoiejkipobbaaBlockM
import Derived.WalkKit
import Derived.IntWalk
namespace Go.Proofs.Ytleoiejkipobbaa.Block
open Go.RowKit Go.Proofs.Ytleoiejkipobbaa.Base Go.Proofs.Ytleoiejkipobbaa.BlockM

theorem str_rd {w : World} {A : Option Addr} {c : Nat} {l : L} (h : RdA w A c (bs l)) :
    (convert 24 9 (.slice A l.length c)).run Try.prog w = .ok (.string ⟨l.toArray⟩) w := by
  have h' := h
  unfold RdA at h'
  rw [bs_length] at h'
  exact run_string_rd (P := Try.prog) w 24 9 5 Try.underlying24 Try.underlying5 Try.underlying9 _ _ _ h'

set_option maxRecDepth 100000 in
theorem equal_s (l m : L) (A B : Option Addr) (c d : Nat) (w : World) (ha : RdA w A c (bs l)) (hb : RdA w B d (bs m)) :
    Calls Try.prog 51 #[.slice A l.length c, .slice B m.length d] w fun e w' => e = .returned (.bool (l == m)) ∧ Stp w w' := by
  have h0 := Stp.refl w
  have c1 := str_rd ha
  have c2 := str_rd hb
  go_enter Try.func51, Try.ntmps51
  go_wp2_with fail
  go_ret
  exact ⟨rfl, h0⟩

theorem take_succ_eq {ls ms : List L} {k : Nat} {l m : L} (hl : ls[k]? = some l) (hm : ms[k]? = some m) (h : ls.take k = ms.take k) : (ls.take (k + 1) = ms.take (k + 1)) ↔ l = m := by
  rw [List.take_add_one, List.take_add_one, hl, hm, h]
  simp

/-! ### package block -/
set_option maxRecDepth 100000 in
/-- How many: any number. -/
theorem many_s (n : Int) (w : World) (hn : n < 9223372036854775808) (hn' : -9223372036854775808 ≤ n) :
    Calls Try.prog 69 #[.int .i64 n] w fun e w' => e = .returned (.int .i64 (manyV n)) ∧ Stp w w' := by
  have h0 := Stp.refl w
  by_cases h1 : n < 1
  · rw [manyV_neg h1]
    go_enter Try.func69, Try.ntmps69
    go_wp2_with fail
    go_ret
    exact ⟨rfl, h0⟩
  · have e : manyV n = (n - 1) / 512 + 1 := by simp [manyV, h1]
    have hb := manyV_bound hn
    rw [e] at hb ⊢
    clear e
    go_enter Try.func69, Try.ntmps69
    go_wp2_with fail
    go_ret
    exact ⟨rfl, h0⟩

theorem mayV_step {ls : List L} {k : Nat} {l : L} (hl : ls[k]? = some l) (h : mayV (ls.take k) = true) : mayV (ls.take (k + 1)) = decide (l.length = 512) := by
  unfold mayV at h ⊢
  rw [List.take_add_one, hl, List.all_append, h]
  simp
theorem mayV_no {ls : List L} {k : Nat} {l : L} (hl : ls[k]? = some l) (h : l.length ≠ 512) : mayV ls = false := by
  rw [Bool.eq_false_iff]
  intro hm
  exact h (mayV_iff.1 hm l (List.mem_of_getElem? hl))
theorem zeroV_step {l : L} {k : Nat} {x : UInt8} (hl : l[k]? = some x) (h : zeroV (l.take k) = true) : zeroV (l.take (k + 1)) = decide (x = 0) := by
  unfold zeroV at h ⊢
  rw [List.take_add_one, hl, List.all_append, h]
  simp
theorem zeroV_no {l : L} {k : Nat} {x : UInt8} (hl : l[k]? = some x) (h : x ≠ 0) : zeroV l = false := by
  rw [Bool.eq_false_iff]
  intro hm
  simp only [zeroV, List.all_eq_true, decide_eq_true_eq] at hm
  exact h (hm x (List.mem_of_getElem? hl))

set_option maxRecDepth 100000 in
theorem may_s (ls : List L) (A : Option Addr) (c : Nat) (w : World) (ha : RdL w A c ls) (hl : ls.length < 9223372036854775808) :
    Calls Try.prog 35 #[.slice A ls.length c] w fun e w' => e = .returned (.bool (mayV ls)) ∧ Stp w w' := by
  obtain ⟨r, hr⟩ : ∃ r, mayV ls = r := ⟨_, rfl⟩
  rw [hr]
  have Hr := Lib.hid hr
  clear hr
  go_enter Try.func35, Try.ntmps35
  go_wp2_with fail
  go_loopw [7] (fun i wr => ∃ k : Nat, k ≤ ls.length ∧ i = .int .i64 k ∧ Stp w wr ∧ Hid (mayV (ls.take k) = true)) (fun i _ => ls.length - (intOf i).toNat)
  case atStart => exact ⟨0, by omega, rfl, Stp.refl w, Lib.hid (by simp [mayV])⟩
  case round =>
    obtain ⟨k, hk, rfl, h0, Hk⟩ := hrel
    by_cases hlt : k < ls.length
    · obtain ⟨l, hl1⟩ : ∃ l, ls[k]? = some l := ⟨_, List.getElem?_eq_getElem hlt⟩
      obtain ⟨b, o, A1, c1, rfl, ca, ra⟩ := (ha.keep h0).at_ hl1
      have Hs := Lib.hid (mayV_step hl1 Hk.out)
      have Hl1 := Lib.hid hl1
      clear hl1
      by_cases h5 : l.length = 512
      · have g : ((l.length : Int) != 512) = false := by simp [h5]
        have H5 := Lib.hid h5
        clear h5
        go_wp2_with fail
        go_roundw
        case rel => exact ⟨k + 1, by omega, by go_num, h0, Lib.hid (by rw [Hs.out]; exact decide_eq_true H5.out)⟩
        case measure => simp [intOf]; omega
      · have g : ((l.length : Int) != 512) = true := by simp; omega
        have H5 := Lib.hid h5
        clear h5
        go_wp2_with fail
        go_ret
        refine ⟨?_, h0⟩
        rw [← Hr.out, mayV_no Hl1.out H5.out]
        rfl
    · obtain rfl : k = ls.length := by omega
      go_wp2_with fail
      go_ret
      refine ⟨?_, h0⟩
      have h := Hk.out
      rw [List.take_length] at h
      rw [← Hr.out, h]
      rfl

set_option maxRecDepth 100000 in
theorem zero_s (l : L) (A : Option Addr) (c : Nat) (w : World) (ha : RdA w A c (bs l)) (hl : l.length < 9223372036854775808) :
    Calls Try.prog 49 #[.slice A l.length c] w fun e w' => e = .returned (.bool (zeroV l)) ∧ Stp w w' := by
  obtain ⟨r, hr⟩ : ∃ r, zeroV l = r := ⟨_, rfl⟩
  rw [hr]
  have Hr := Lib.hid hr
  clear hr
  go_enter Try.func49, Try.ntmps49
  go_wp2_with fail
  go_loopw [7] (fun i wr => ∃ k : Nat, k ≤ l.length ∧ i = .int .i64 k ∧ Stp w wr ∧ Hid (zeroV (l.take k) = true)) (fun i _ => l.length - (intOf i).toNat)
  case atStart => exact ⟨0, by omega, rfl, Stp.refl w, Lib.hid (by simp [zeroV])⟩
  case round =>
    obtain ⟨k, hk, rfl, h0, Hk⟩ := hrel
    by_cases hlt : k < l.length
    · obtain ⟨x, hl1⟩ : ∃ x, l[k]? = some x := ⟨_, List.getElem?_eq_getElem hlt⟩
      obtain ⟨b, o, rfl, hcell⟩ := (ha.keep h0).at_ (j := k) (by rw [bs_length]; exact hlt)
      have ca := hcell k (.int .u8 (x.toNat : Int)) (by rw [bs_at hlt, ← (List.getElem?_eq_some_iff.1 hl1).2])
      have Hs := Lib.hid (zeroV_step hl1 Hk.out)
      have Hl1 := Lib.hid hl1
      clear hl1 hcell
      by_cases h5 : x = 0
      · have g : ((x.toNat : Int) != 0) = false := by simp [h5]
        have H5 := Lib.hid h5
        clear h5
        go_wp2_with fail
        go_roundw
        case rel => exact ⟨k + 1, by omega, by go_num, h0, Lib.hid (by rw [Hs.out]; exact decide_eq_true H5.out)⟩
        case measure => simp [intOf]; omega
      · have g : ((x.toNat : Int) != 0) = true := by
          rw [bne_iff_ne]
          intro h
          exact h5 (UInt8.toNat_inj.1 (by show x.toNat = 0; omega))
        have H5 := Lib.hid h5
        clear h5
        go_wp2_with fail
        go_ret
        refine ⟨?_, h0⟩
        rw [← Hr.out, zeroV_no Hl1.out H5.out]
        rfl
    · obtain rfl : k = l.length := by omega
      go_wp2_with fail
      go_ret
      refine ⟨?_, h0⟩
      have h := Hk.out
      rw [List.take_length] at h
      rw [← Hr.out, h]
      rfl
end Go.Proofs.Ytleoiejkipobbaa.Block
