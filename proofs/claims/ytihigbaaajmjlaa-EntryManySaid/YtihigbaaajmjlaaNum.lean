/-
  Contracts of package num: what each function returns, and that it writes nothing that was there: no statement is proved here.
-/
import Derived.Test.YtihigbaaajmjlaaProg
import Derived.Test.YtihigbaaajmjlaaBase
import Derived.Test.YtihigbaaajmjlaaNumM
namespace Go.Proofs.Ytihigbaaajmjlaa.Num
open Go.RowKit Go.Proofs.Ytihigbaaajmjlaa.Base Go.Proofs.Ytihigbaaajmjlaa.NumM

theorem byte_info : (Try.prog.info? 5).map (fun i => (i.zero, i.size, i.bytes)) = some (some (.int .u8 0), 1, 1) := by kernel_rfl

/-- string(b), at this program's numbers. -/
theorem str_of (w : World) (B : Nat) (v : Value) (l : List UInt8) (h : Rd w B v (bs l)) : (convert 39 9 v).run Try.prog w = .ok (.string ⟨l.toArray⟩) w :=
  run_string_rd (P := Try.prog) w 39 9 5 Try.underlying39 Try.underlying5 Try.underlying9 B v l h

theorem ba_eq {a b : ByteArray} (h : a.data.toList = b.data.toList) : a = b := by
  cases a; cases b
  simp only at h
  rw [ByteArray.mk.injEq]
  exact Array.toList_inj.1 h

set_option maxRecDepth 100000 in
theorem isWidth_any (n : Int) (w : World) :
    Calls Try.prog 88 #[.int .i64 n] w fun e w' => e = .returned (.bool (decide (2 ≤ n) && decide (n ≤ 20))) ∧ w = w' := by
  by_cases h1 : 2 ≤ n
  · by_cases h2 : n ≤ 20
    · go_enter Try.func88, Try.ntmps88
      go_wp2
      go_ret
      exact ⟨by simp [h1, h2], rfl⟩
    · go_enter Try.func88, Try.ntmps88
      go_wp2
      go_ret
      exact ⟨by simp [h2], rfl⟩
  · go_enter Try.func88, Try.ntmps88
    go_wp2
    go_ret
    exact ⟨by simp; omega, rfl⟩

set_option maxRecDepth 100000 in
/-- The closure: one digit more, from behind. -/
theorem gather_any (gf gt ga d k : Nat) (x : Int) (cs : Array Value) (w : World) (hx : 0 ≤ x) (hx7 : x ≤ 7) (hk : k < d) (hd : d ≤ 20)
    (hf : Blk w gf 3 #[.int .i64 ((k + 1 : Nat) : Int)]) (ht : Blk w gt 39 #[.slice (some ⟨ga, 0, none⟩) d d]) (ha : Blk w ga 5 cs) (hc : cs.size = d) (hfa : gf ≠ ga) (hft : gf ≠ gt) :
    Calls Try.prog 100 #[.int .i64 x, .pointer (some ⟨gf, 0, none⟩), .pointer (some ⟨gt, 0, none⟩)] w fun e w' => e = .returned (.tuple #[]) ∧
      w' = (w.setCell ⟨gf, 0, none⟩ (.int .i64 (k : Int))).setCell ⟨ga, k, none⟩ (.int .u8 (48 + x)) := by
  have c1 := cell_of_one hf
  have c2 := free_of_one hf
  have c3 := cell_of_one ht
  have c4 : w.cell? ⟨ga, k, none⟩ = some (cs[k]'(by omega)) := by rw [ha.cell, Array.getElem?_eq_getElem]
  have c5 := ha.free k
  have hw1 : 0 ≤ 48 + x := by omega
  have hw2 : 48 + x ≤ 255 := by omega
  clear hf ht ha
  go_enter Try.func100, Try.ntmps100
  go_wp2

  go_end0
  exact ⟨rfl, rfl⟩

/-- The cells of the text behind k rounds: zeros, and the digits that are there. -/
def octCells (d k n : Nat) : Array Value := Array.replicate (d - k) (.int .u8 0) ++ (bs (octs k n)).toArray
theorem octCells_size {d k n : Nat} (h : k ≤ d) : (octCells d k n).size = d := by
  simp [octCells, bs_length, octs_length]; omega
theorem octCells_step {d k n : Nat} (h : k < d) (x : Int) (hx : x = ((n / 8 ^ k : Nat) : Int)) : (octCells d k n).setIfInBounds (d - k - 1) (.int .u8 (48 + x % 8)) = octCells d (k + 1) n := by
  subst hx
  have e : (48 + ((n / 8 ^ k : Nat) : Int) % 8 : Int) = ((oc (n / 8 ^ k % 8)).toNat : Int) := by
    rw [oc_toNat (Nat.mod_lt _ (by omega))]; omega
  rw [e]
  unfold octCells
  rw [octs_cons]
  obtain ⟨j, hj⟩ : ∃ j, d - k = j + 1 := ⟨d - k - 1, by omega⟩
  rw [hj, show d - (k + 1) = j by omega, Nat.add_sub_cancel]
  apply Array.ext'
  rw [Array.toList_setIfInBounds]
  simp only [Array.toList_append, Array.toList_replicate, List.replicate_succ']
  rw [List.append_assoc, List.set_append_right _ _ (by simp)]
  simp [bs]

set_option maxRecDepth 100000 in
set_option maxHeartbeats 800000 in
theorem oct_in (n d : Nat) (w : World) (hn : n < 9223372036854775808) (h1 : 1 ≤ d) (h20 : d ≤ 20) :
    Calls Try.prog 81 #[.int .i64 (n : Int), .int .i64 (d : Int)] w fun e w' => Below w.heap.size w w' ∧
      ((n < 8 ^ d → e = .returned (.tuple #[.string ⟨(octs d n).toArray⟩, .bool true])) ∧ (¬ n < 8 ^ d → e = .returned (.tuple #[.string ⟨#[]⟩, .bool false]))) := by
  have hmf : ∀ (fn : Fn) (first cap : Array Value) (w : World), (Instr.makeFunc fn first cap).run Try.prog w = .ok (.func fn first cap) w := fun _ _ _ _ => rfl
  go_enter Try.func81, Try.ntmps81
  go_wp2_with (at_make; refine wpList_make_blk _ rfl _ _ 39 rfl 5 (.int .u8 0) 1 Try.underlying39 byte_info rfl .i64 .i64 _ d rfl rfl rfl (by omega) (by unfold maxLen; omega) ?_)
  intro w1 hb1 hs1 hg1
  have hg2 := (((Below.refl w.heap.size w).grown hg1 (Nat.le_refl _) (by simp)).alloc (by omega) (.cells #[.slice (some ⟨w.heap.size, 0, none⟩) d d] 39)).alloc (by simp; omega) (.cells #[.int .i64 (d : Int)] 3)
  have ha2 := (hb1.alloc (.cells #[.slice (some ⟨w.heap.size, 0, none⟩) d d] 39)).alloc (.cells #[.int .i64 (d : Int)] 3)
  have ht2 := (Blk.new w1 39 #[.slice (some ⟨w.heap.size, 0, none⟩) d d]).alloc (.cells #[.int .i64 (d : Int)] 3)
  have hf2 := Blk.new (w1.alloc (.cells #[.slice (some ⟨w.heap.size, 0, none⟩) d d] 39)) 3 #[.int .i64 (d : Int)]
  rw [hs1] at ht2
  rw [World.size_alloc, hs1] at hf2
  have Hg2 := Lib.hid hg2
  have Ha2 := Lib.hid ha2
  have Ht2 := Lib.hid ht2
  have Hf2 := Lib.hid hf2
  clear hg2 ha2 ht2 hf2 hb1 hg1
  go_wp2_with fail
  go_loopw [9, 26] (fun r i wr => ∃ (k : Nat) (x : Int), k ≤ d ∧ i = .int .i64 k ∧ r = .int .i64 x ∧ 0 ≤ x ∧ x < 9223372036854775808 ∧ Hid (x = ((n / 8 ^ k : Nat) : Int)) ∧
      Hid (Blk wr w.heap.size 5 (octCells d k n)) ∧ Hid (Blk wr (w.heap.size + 1) 39 #[.slice (some ⟨w.heap.size, 0, none⟩) d d]) ∧ Hid (Blk wr (w.heap.size + 1 + 1) 3 #[.int .i64 ((d - k : Nat) : Int)]) ∧ Hid (Below w.heap.size w wr))
    (fun _ i _ => d - (intOf i).toNat)
  case atStart =>
    refine ⟨0, n, by omega, rfl, rfl, by omega, by omega, Lib.hid (by simp), ?_, Ht2, ?_, Hg2⟩
    · refine Lib.hid ?_
      have h := Ha2.out
      simpa [octCells, bs, octs, digs] using h
    · exact Hf2
  case round =>
    obtain ⟨k, x, hk, rfl, rfl, hx0, hx1, Hx, Ha, Ht, Hf, Hb⟩ := hrel
    clear Ha2 Ht2 Hf2 Hg2
    by_cases hlt : k < d
    · have hm0 : 0 ≤ x % 8 := by omega
      have hm1 : x % 8 ≤ 7 := by omega
      go_wp2_with fail
      refine (gather_any (w.heap.size + 1 + 1) (w.heap.size + 1) w.heap.size d (d - k - 1) (x % 8) _ wr hm0 hm1 (by omega) h20 (by rw [show d - k - 1 + 1 = d - k by omega]; exact Hf.out) Ht.out Ha.out (octCells_size hk) (by omega) (by omega)).mono ?_
      rintro e w3 ⟨rfl, rfl⟩
      have Ha3 := Lib.hid ((Ha.out.far (p := ⟨w.heap.size + 1 + 1, 0, none⟩) (by simp only; omega) (.int .i64 ((d - k - 1 : Nat) : Int))).put (d - k - 1) (.int .u8 (48 + x % 8)))
      have Ht3 := Lib.hid ((Ht.out.far (p := ⟨w.heap.size + 1 + 1, 0, none⟩) (by simp only; omega) (.int .i64 ((d - k - 1 : Nat) : Int))).far (p := ⟨w.heap.size, d - k - 1, none⟩) (by simp only; omega) (.int .u8 (48 + x % 8)))
      have Hf3 := Lib.hid ((Hf.out.put 0 (.int .i64 ((d - k - 1 : Nat) : Int))).far (p := ⟨w.heap.size, d - k - 1, none⟩) (by simp only; omega) (.int .u8 (48 + x % 8)))
      have Hb3 := Lib.hid ((Hb.out.setCell (p := ⟨w.heap.size + 1 + 1, 0, none⟩) (by simp only; omega) (.int .i64 ((d - k - 1 : Nat) : Int))).setCell (p := ⟨w.heap.size, d - k - 1, none⟩) (by simp) (.int .u8 (48 + x % 8)))
      clear Ha Ht Hf Hb
      go_wp2_with fail
      go_roundw
      case rel =>
        refine ⟨k + 1, x / 8, by omega, by go_num, rfl, by omega, by omega, Lib.hid ?_, ?_, Ht3, ?_, Hb3⟩
        · rw [Hx.out, Nat.pow_succ, ← Nat.div_div_eq_div_mul]; rfl
        · have h := Ha3.out
          rw [octCells_step hlt x Hx.out] at h
          exact h
        · have h := Hf3.out
          rw [show d - (k + 1) = d - k - 1 by omega]
          exact h
      case measure => simp [intOf]; omega
    · obtain rfl : k = d := by omega
      have hto : (octCells k k n).toList = bs (octs k n) := by simp [octCells]
      have hrd := (Own.of_blk (lo := 0) Ha.out (Nat.zero_le _) (octCells_size (Nat.le_refl _)) (by unfold maxLen; omega)).rd
      rw [hto] at hrd
      have hcv := run_string_rd (P := Try.prog) wr 39 9 5 Try.underlying39 Try.underlying5 Try.underlying9 _ _ _ hrd
      have hld := cell_of_one Ht.out
      clear hrd hto
      by_cases hfit : n < 8 ^ k
      · obtain rfl : x = 0 := by rw [Hx.out, Nat.div_eq_of_lt hfit]; rfl
        clear Hx
        have Hfit := Lib.hid hfit
        clear hfit
        go_wp2_with fail
        go_ret2
        exact ⟨Hb.out, fun _ => rfl, fun h => absurd Hfit.out h⟩
      · have hx2 : 0 < x := by
          rw [Hx.out]
          have := Nat.div_pos (Nat.le_of_not_lt hfit) (Nat.pow_pos (n := k) (show 0 < 8 by omega))
          omega
        have hne : (x != 0) = true := by simp; omega
        have Hfit := Lib.hid hfit
        clear hfit Hx
        go_wp2_with fail
        go_ret2
        exact ⟨Hb.out, fun h => absurd h Hfit.out, fun _ => rfl⟩

/-- Has Octal an answer? -/
def octOk (n d : Int) : Bool := decide (0 ≤ n ∧ 1 ≤ d ∧ d ≤ 20 ∧ n.toNat < 8 ^ d.toNat)
theorem octOk_iff {n d : Int} : octOk n d = true ↔ 0 ≤ n ∧ 1 ≤ d ∧ d ≤ 20 ∧ n.toNat < 8 ^ d.toNat := by simp [octOk]
theorem octOk_nat {n d : Nat} (h1 : 1 ≤ d) (h20 : d ≤ 20) : octOk (n : Int) (d : Int) = decide (n < 8 ^ d) := by
  unfold octOk
  rw [Int.toNat_natCast, Int.toNat_natCast]
  by_cases h : n < 8 ^ d
  · simp only [h, and_true, decide_true, decide_eq_true_eq]; omega
  · simp [h]

theorem oct_yes (n d : Int) (w : World) (hn : n < 9223372036854775808) (h : octOk n d = true) :
    Calls Try.prog 81 #[.int .i64 n, .int .i64 d] w fun e w' => e = .returned (.tuple #[.string ⟨(octs d.toNat n.toNat).toArray⟩, .bool true]) ∧ Below w.heap.size w w' := by
  obtain ⟨h0, h1, h20, hf⟩ := octOk_iff.1 h
  obtain ⟨n, rfl⟩ := Int.eq_ofNat_of_zero_le h0
  obtain ⟨d, rfl⟩ := Int.eq_ofNat_of_zero_le (show 0 ≤ d by omega)
  simp only [Int.toNat_natCast] at hf ⊢
  exact (oct_in n d w (by omega) (by omega) (by omega)).mono fun _ _ h => ⟨h.2.1 hf, h.1⟩

set_option maxRecDepth 100000 in
theorem oct_no (n d : Int) (w : World) (hn : n < 9223372036854775808) (h : octOk n d = false) :
    Calls Try.prog 81 #[.int .i64 n, .int .i64 d] w fun e w' => e = .returned (.tuple #[.string ⟨#[]⟩, .bool false]) ∧ Below w.heap.size w w' := by
  by_cases h0 : n < 0
  · clear h hn
    go_enter Try.func81, Try.ntmps81
    go_wp2_with fail
    go_ret2
    exact ⟨rfl, Below.refl _ _⟩
  · by_cases h1 : d < 1
    · clear h hn
      have h0' : 0 ≤ n := by omega
      go_enter Try.func81, Try.ntmps81
      go_wp2_with fail
      go_ret2
      exact ⟨rfl, Below.refl _ _⟩
    · by_cases h2 : 20 < d
      · clear h hn
        have h0' : 0 ≤ n := by omega
        go_enter Try.func81, Try.ntmps81
        go_wp2_with fail
        go_ret2
        exact ⟨rfl, Below.refl _ _⟩
      · have hf : ¬ n.toNat < 8 ^ d.toNat := fun hf => by
          rw [octOk_iff.2 ⟨by omega, by omega, by omega, hf⟩] at h
          cases h
        obtain ⟨n, rfl⟩ := Int.eq_ofNat_of_zero_le (show 0 ≤ n by omega)
        obtain ⟨d, rfl⟩ := Int.eq_ofNat_of_zero_le (show 0 ≤ d by omega)
        simp only [Int.toNat_natCast] at hf
        exact (oct_in n d w (by omega) (by omega) (by omega)).mono fun _ _ h => ⟨h.2.2 hf, h.1⟩

/-- Is that a width? -/
def widOk (n : Int) : Bool := decide (2 ≤ n ∧ n ≤ 20)
theorem widOk_iff {n : Int} : widOk n = true ↔ 2 ≤ n ∧ n ≤ 20 := by simp [widOk]
theorem isWidth_is (n : Int) (w : World) : Calls Try.prog 88 #[.int .i64 n] w fun e w' => e = .returned (.bool (widOk n)) ∧ w = w' :=
  (isWidth_any n w).mono fun _ _ h => ⟨h.1.trans (by simp [widOk]), h.2⟩
theorem isWidth_yes (n : Int) (w : World) (h : widOk n = true) : Calls Try.prog 88 #[.int .i64 n] w fun e w' => e = .returned (.bool true) ∧ w = w' := by
  have := isWidth_is n w; rwa [h] at this
theorem isWidth_no (n : Int) (w : World) (h : widOk n = false) : Calls Try.prog 88 #[.int .i64 n] w fun e w' => e = .returned (.bool false) ∧ w = w' := by
  have := isWidth_is n w; rwa [h] at this

end Go.Proofs.Ytihigbaaajmjlaa.Num
