/-
  Contracts of package num, more: putBytes and Put: no statement is proved here.
-/
import Derived.Test.YtihigbaaajmjlaaNum
namespace Go.Proofs.Ytihigbaaajmjlaa.Num
open Go.RowKit Go.Proofs.Ytihigbaaajmjlaa.Base Go.Proofs.Ytihigbaaajmjlaa.NumM

/-- The cells of the field behind k rounds: the mark, zeros, and the bytes that are there. -/
def pbCells (d k n : Nat) : Array Value := #[.int .u8 128] ++ Array.replicate (d - k) (.int .u8 0) ++ (bs (byts k n)).toArray
theorem pbCells_size {d k n : Nat} (h : k ≤ d) : (pbCells d k n).size = d + 1 := by
  simp [pbCells, bs_length, byts_length]; omega
theorem pbCells_step {d k n : Nat} (h : k < d) (x : Int) (hx : x = ((n / 256 ^ k : Nat) : Int)) : (pbCells d k n).setIfInBounds (d - k) (.int .u8 (x % 256)) = pbCells d (k + 1) n := by
  subst hx
  have e : (((n / 256 ^ k : Nat) : Int) % 256 : Int) = ((UInt8.ofNat (n / 256 ^ k % 256)).toNat : Int) := by
    rw [by_toNat (Nat.mod_lt _ (by omega))]; omega
  rw [e]
  unfold pbCells
  rw [byts_cons]
  obtain ⟨j, hj⟩ : ∃ j, d - k = j + 1 := ⟨d - k - 1, by omega⟩
  rw [hj, show d - (k + 1) = j by omega]
  apply Array.ext'
  rw [Array.toList_setIfInBounds]
  simp only [Array.toList_append, Array.toList_replicate, List.replicate_succ']
  rw [List.append_assoc, List.append_assoc, List.set_append_right _ _ (by simp)]
  simp [bs]

set_option maxRecDepth 100000 in
set_option maxHeartbeats 800000 in
theorem putBytes_in (n d : Nat) (w : World) (hn : n < 9223372036854775808) (h1 : 1 ≤ d) (h19 : d ≤ 19) :
    Calls Try.prog 89 #[.int .i64 (n : Int), .int .i64 ((d : Int) + 1)] w fun e w' => Below w.heap.size w w' ∧
      ((n < 256 ^ d → ∃ v, e = .returned (.tuple #[v, .bool true]) ∧ Own w' w.heap.size 5 v (bs (128 :: byts d n))) ∧ (¬ n < 256 ^ d → e = .returned (.tuple #[.slice none 0 0, .bool false]))) := by
  go_enter Try.func89, Try.ntmps89
  go_wp2_with (at_make; refine wpList_make_blk _ rfl _ _ 39 rfl 5 (.int .u8 0) 1 Try.underlying39 byte_info rfl .i64 .i64 _ (d + 1) rfl rfl rfl (by omega) (by unfold maxLen; omega) ?_)
  intro w1 hb1 hs1 hg1
  have hb0 := (Below.refl w.heap.size w).grown hg1 (Nat.le_refl _) (by simp)
  have hc0 : w1.cell? ⟨w.heap.size, 0, none⟩ = some (.int .u8 0) := by rw [hb1.cell]; simp
  have hf0 := hb1.free 0
  have Hb0 := Lib.hid hb0
  have Hb1 := Lib.hid hb1
  clear hb0 hb1 hg1
  go_wp2_with fail
  go_loopw [7, 16] (fun r i wr => ∃ (k : Nat) (x : Int), k ≤ d ∧ i = .int .i64 k ∧ r = .int .i64 x ∧ 0 ≤ x ∧ x < 9223372036854775808 ∧ Hid (x = ((n / 256 ^ k : Nat) : Int)) ∧
      Hid (Blk wr w.heap.size 5 (pbCells d k n)) ∧ Hid (Below w.heap.size w wr))
    (fun _ i _ => d - (intOf i).toNat)
  case atStart =>
    refine ⟨0, n, by omega, rfl, rfl, by omega, by omega, Lib.hid (by simp), Lib.hid ?_, Lib.hid (Hb0.out.setCell (p := ⟨w.heap.size, 0, none⟩) (Nat.le_refl _) _)⟩
    have h := Hb1.out.put 0 (.int .u8 128)
    have e : (Array.replicate (d + 1) (Value.int IntKind.u8 0)).setIfInBounds 0 (.int .u8 128) = pbCells d 0 n := by
      apply Array.ext'
      rw [Array.toList_setIfInBounds]
      simp [pbCells, bs, byts, digs, List.replicate_succ]
    rw [e] at h
    exact h
  case round =>
    obtain ⟨k, x, hk, rfl, rfl, hx0, hx1, Hx, Ha, Hb⟩ := hrel
    clear Hb0 Hb1 hc0 hf0 hs1
    by_cases hlt : k < d
    · have hm0 : 0 ≤ x % 256 := by omega
      have hm1 : x % 256 ≤ 255 := by omega
      have hcell : wr.cell? ⟨w.heap.size, d - k, none⟩ = some ((pbCells d k n)[d - k]'(by rw [pbCells_size hk]; omega)) := by rw [Ha.out.cell, Array.getElem?_eq_getElem]
      obtain ⟨y, hy⟩ : ∃ y, y = ((pbCells d k n)[d - k]'(by rw [pbCells_size hk]; omega)) := ⟨_, rfl⟩
      rw [← hy] at hcell
      clear hy
      have hfro := Ha.out.free (d - k)
      have Ha3 := Lib.hid (Ha.out.put (d - k) (.int .u8 (x % 256)))
      have Hb3 := Lib.hid (Hb.out.setCell (p := ⟨w.heap.size, d - k, none⟩) (by simp) (.int .u8 (x % 256)))
      clear Ha Hb
      go_wp2_with fail
      go_roundw
      case rel =>
        refine ⟨k + 1, x / 256, by omega, by go_num, rfl, by omega, by omega, Lib.hid ?_, Lib.hid ?_, Hb3⟩
        · rw [Hx.out, Nat.pow_succ, ← Nat.div_div_eq_div_mul]; rfl
        · have h := Ha3.out
          rw [pbCells_step hlt x Hx.out] at h
          exact h
      case measure => simp [intOf]; omega
    · obtain rfl : k = d := by omega
      by_cases hfit : n < 256 ^ k
      · obtain rfl : x = 0 := by rw [Hx.out, Nat.div_eq_of_lt hfit]; rfl
        clear Hx
        have Hfit := Lib.hid hfit
        clear hfit
        go_wp2_with fail
        go_ret2
        refine ⟨Hb.out, fun _ => ⟨_, rfl, ?_⟩, fun h => absurd Hfit.out h⟩
        have h := Own.of_blk (lo := w.heap.size) Ha.out (Nat.le_refl _) (pbCells_size (Nat.le_refl _)) (by unfold maxLen; omega)
        have e : (pbCells k k n).toList = bs (128 :: byts k n) := by simp [pbCells, bs]
        rw [e] at h
        exact h
      · have hx2 : 0 < x := by
          rw [Hx.out]
          have := Nat.div_pos (Nat.le_of_not_lt hfit) (Nat.pow_pos (n := k) (show 0 < 256 by omega))
          omega
        have hne : (x != 0) = true := by simp; omega
        have Hfit := Lib.hid hfit
        clear hfit Hx
        go_wp2_with fail
        go_ret2
        exact ⟨Hb.out, fun h => absurd h Hfit.out, fun _ => rfl⟩

/-- Has Put an answer? -/
def putOk (n wide : Int) : Bool := decide (0 ≤ n ∧ 2 ≤ wide ∧ wide ≤ 20 ∧ n.toNat < 256 ^ (wide - 1).toNat)
theorem putOk_iff {n wide : Int} : putOk n wide = true ↔ 0 ≤ n ∧ 2 ≤ wide ∧ wide ≤ 20 ∧ n.toNat < 256 ^ (wide - 1).toNat := by simp [putOk]
theorem octOk_putOk {n wide : Int} (h2 : 2 ≤ wide) (h20 : wide ≤ 20) (h : octOk n (wide - 1) = true) : putOk n wide = true := by
  obtain ⟨h0, _, _, hf⟩ := octOk_iff.1 h
  exact putOk_iff.2 ⟨h0, h2, h20, Nat.lt_of_lt_of_le hf (pow_le_256 _)⟩

set_option maxRecDepth 100000 in
set_option maxHeartbeats 800000 in
theorem put_yes (n wide : Int) (w : World) (hn : n < 9223372036854775808) (h : putOk n wide = true) :
    Calls Try.prog 51 #[.int .i64 n, .int .i64 wide] w fun e w' => ∃ v, e = .returned (.tuple #[v, .bool true]) ∧ Own w' w.heap.size 5 v (bs (putL wide.toNat n.toNat)) ∧ Below w.heap.size w w' := by
  obtain ⟨h0, h2, h20, hf⟩ := putOk_iff.1 h
  have Hw := Lib.hid (widOk_iff.2 ⟨h2, h20⟩)
  cases ho : octOk n (wide - 1)
  · have Ho := Lib.hid ho
    have Hf := Lib.hid hf
    have Hput : Hid (putL wide.toNat n.toNat = 128 :: byts (wide.toNat - 1) n.toNat) := Lib.hid (putL_many (fun hh => by
      rw [octOk_iff.2 ⟨h0, by omega, by omega, by rw [show (wide - 1).toNat = wide.toNat - 1 by omega]; exact hh⟩] at ho
      cases ho))
    clear ho h hf
    go_enter Try.func51, Try.ntmps51
    go_wp2_with fail
    refine (isWidth_yes _ _ Hw.out).mono ?_
    rintro e w' ⟨rfl, rfl⟩
    go_wp2_with fail
    refine (oct_no _ _ _ hn Ho.out).mono ?_
    rintro e w1 ⟨rfl, hb⟩
    have Hb := Lib.hid hb
    clear hb
    go_wp2_with fail
    obtain ⟨N, rfl⟩ := Int.eq_ofNat_of_zero_le h0
    obtain ⟨D, hD⟩ : ∃ D : Nat, wide = (D : Int) + 1 := ⟨(wide - 1).toNat, by omega⟩
    subst hD
    refine (putBytes_in N D w1 (by omega) (by omega) (by omega)).mono ?_
    rintro e w2 ⟨hb2, hy, _⟩
    have hf := Hf.out
    rw [show ((D : Int) + 1 - 1).toNat = D by omega, Int.toNat_natCast] at hf
    obtain ⟨v, rfl, hv⟩ := hy hf
    clear hy hf
    have hbb := Hb.out.trans (hb2.mono Hb.out.size)
    have Hv := Lib.hid (hv.less Hb.out.size)
    have Hbb := Lib.hid hbb
    clear hbb hv hb2 Hb Hf
    go_wp2_with fail
    go_ret2
    refine ⟨v, rfl, ?_, Hbb.out⟩
    rw [Hput.out, show ((D : Int) + 1).toNat - 1 = D by omega, Int.toNat_natCast]
    exact Hv.out
  · have Ho := Lib.hid ho
    have Hput : Hid (putL wide.toNat n.toNat = octs (wide.toNat - 1) n.toNat ++ [0]) := Lib.hid (putL_few (by
      have h3 := (octOk_iff.1 ho).2.2.2
      rw [show (wide - 1).toNat = wide.toNat - 1 by omega] at h3
      exact h3))
    clear ho h hf
    go_enter Try.func51, Try.ntmps51
    go_wp2_with fail
    refine (isWidth_yes _ _ Hw.out).mono ?_
    rintro e w' ⟨rfl, rfl⟩
    go_wp2_with fail
    refine (oct_yes _ _ _ hn Ho.out).mono ?_
    rintro e w1 ⟨rfl, hb⟩
    have Hb := Lib.hid hb
    clear hb
    go_wp2_with (refine wpList_bytes (P := Try.prog) (o := ⟨some 24, _, _, _, _, _⟩) _ rfl 9 39 (.tmp 23) rfl 5 Try.underlying9 Try.underlying39 Try.underlying5 _ rfl ?hm ?_)
    case hm =>
      show (octs _ _).toArray.size ≤ _
      rw [List.size_toArray, octs_length]
      unfold maxLen
      omega
    intro v2 w2 hv2 hg2 hat2
    have Hg2 := Lib.hid hg2
    have Hv2 : Hid (Own w2 w1.heap.size 5 v2 (bs (octs (wide.toNat - 1) n.toNat))) := Lib.hid (by simpa using hv2)
    have Hat2 := Lib.hid hat2
    have Hlen : Hid (wide.toNat ≤ 20) := Lib.hid (by omega)
    clear hg2 hv2 hat2
    go_wp2_with (at_builtin; refine wpList_append_rd (P := Try.prog) _ rfl (.tmp 24) (.tmp 25) 39 rfl w1.heap.size 5 (.int .u8 0) 1 Try.underlying39 byte_info rfl v2 _ rfl (Hv2.out.alloc _) _ _ [.int .u8 0] rfl (rd_lit _ _ _) (bs_one [0]) ?h1 ?h2 ?h3 ?_)
    case h1 =>
      rw [bs_length, octs_length]
      have := Hlen.out
      unfold maxLen
      simp only [List.length_cons, List.length_nil]
      omega
    case h2 =>
      rw [bs_length, octs_length]
      have := Hlen.out
      simp only [List.length_cons, List.length_nil]
      omega
    case h3 =>
      have := Hg2.out.size
      simp
      omega
    intro v3 w3 hv3 hg3 hat3
    have Hbb : Hid (Below w.heap.size w w3) := Lib.hid (by
      have hs := Hb.out.size
      have hs2 := Hg2.out.size
      refine ((Hb.out.grown Hg2.out hs (by simp)).alloc (by omega) _).grown hg3 (by simp; omega) (fun k hk => ?_)
      rw [Hat2.out] at hk
      injection hk with hk
      omega)
    have Hv3 : Hid (Own w3 w1.heap.size 5 v3 (bs (octs (wide.toNat - 1) n.toNat ++ [0]))) := Lib.hid (by rw [bs_append]; exact hv3)
    clear hv3 hg3 hat3
    go_wp2_with fail
    go_ret2
    exact ⟨v3, rfl, by rw [Hput.out]; exact Hv3.out.less Hb.out.size, Hbb.out⟩

set_option maxRecDepth 100000 in
set_option maxHeartbeats 800000 in
theorem put_no (n wide : Int) (w : World) (hn : n < 9223372036854775808) (h : putOk n wide = false) :
    Calls Try.prog 51 #[.int .i64 n, .int .i64 wide] w fun e w' => e = .returned (.tuple #[.slice none 0 0, .bool false]) ∧ Below w.heap.size w w' := by
  by_cases h0 : n < 0
  · clear h hn
    go_enter Try.func51, Try.ntmps51
    go_wp2_with fail
    go_ret2
    exact ⟨rfl, Below.refl _ _⟩
  · have h0' : 0 ≤ n := by omega
    cases hw : widOk wide
    · have Hw := Lib.hid hw
      clear h hn hw
      go_enter Try.func51, Try.ntmps51
      go_wp2_with fail
      refine (isWidth_no _ _ Hw.out).mono ?_
      rintro e w' ⟨rfl, rfl⟩
      go_wp2_with fail
      go_ret2
      exact ⟨rfl, Below.refl _ _⟩
    · obtain ⟨h2, h20⟩ := widOk_iff.1 hw
      have Hw := Lib.hid hw
      have Ho : Hid (octOk n (wide - 1) = false) := Lib.hid (by
        cases ho : octOk n (wide - 1)
        · rfl
        · rw [octOk_putOk h2 h20 ho] at h
          cases h)
      have Hf : Hid (¬ n.toNat < 256 ^ (wide - 1).toNat) := Lib.hid (fun hf => by
        rw [putOk_iff.2 ⟨h0', h2, h20, hf⟩] at h
        cases h)
      clear h hw
      go_enter Try.func51, Try.ntmps51
      go_wp2_with fail
      refine (isWidth_yes _ _ Hw.out).mono ?_
      rintro e w' ⟨rfl, rfl⟩
      go_wp2_with fail
      refine (oct_no _ _ _ hn Ho.out).mono ?_
      rintro e w1 ⟨rfl, hb⟩
      have Hb := Lib.hid hb
      clear hb
      go_wp2_with fail
      obtain ⟨N, rfl⟩ := Int.eq_ofNat_of_zero_le h0'
      obtain ⟨D, hD⟩ : ∃ D : Nat, wide = (D : Int) + 1 := ⟨(wide - 1).toNat, by omega⟩
      subst hD
      refine (putBytes_in N D w1 (by omega) (by omega) (by omega)).mono ?_
      rintro e w2 ⟨hb2, _, hy⟩
      have hf := Hf.out
      rw [show ((D : Int) + 1 - 1).toNat = D by omega, Int.toNat_natCast] at hf
      obtain rfl := hy hf
      have Hbb := Lib.hid (Hb.out.trans (hb2.mono Hb.out.size))
      clear hy hf hb2 Hb Hf
      go_wp2_with fail
      go_ret2
      exact ⟨rfl, Hbb.out⟩
end Go.Proofs.Ytihigbaaajmjlaa.Num
