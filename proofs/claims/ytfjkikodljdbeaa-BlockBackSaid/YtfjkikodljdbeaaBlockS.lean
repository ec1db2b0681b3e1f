/-
  The statements' helpers for blocks (long, Few, awake): no statement is proved here.
-/
import Derived.Test.YtfjkikodljdbeaaBlockC
namespace Go.Proofs.Ytfjkikodljdbeaa.Block
open Go.RowKit Go.Shelf Go.Proofs.Ytfjkikodljdbeaa.Base Go.Proofs.Ytfjkikodljdbeaa.BlockM Go.Proofs.Ytfjkikodljdbeaa.Str

theorem stp_of_grown {w w1 : World} (h : w.grownBy w1 none) : Stp w w1 := ⟨h.os, h.tape, h.output, h.size, fun j hj => h.block j hj (by simp)⟩
/-- A row of bytes 0, as a string. -/
theorem noughts_str {w : World} {g k : Nat} (h : Blk w g 5 (Array.replicate k (.int .u8 0))) (hk : k ≤ 100000) :
    (convert 31 9 (.slice (some ⟨g, 0, none⟩) k k)).run Try.prog w = .ok (.string ⟨(noughts k).toArray⟩) w := by
  have hrd : Rd w w.heap.size (.slice (some ⟨g, 0, none⟩) k k) (bs (noughts k)) := by
    have h' := (Base.Own.of_blk (lo := 0) h (Nat.zero_le _) (n := k) (by simp) (by unfold maxLen; omega)).rd
    simpa [noughts, bs] using h'
  exact run_string_rd (P := Try.prog) w 31 9 5 Try.underlying31 Try.underlying5 Try.underlying9 _ _ _ hrd

/-- k bytes, the first i of them 1, the others 0. -/
def ones (k i : Nat) : L := List.replicate i 1 ++ noughts (k - i)
theorem ones_length {k i : Nat} (h : i ≤ k) : (ones k i).length = k := by simp [ones, noughts]; omega
theorem ones_set {k i : Nat} (h : i < k) : (ones k i).set i 1 = ones k (i + 1) := by
  obtain ⟨j, hj⟩ : ∃ j, k - i = j + 1 := ⟨k - i - 1, by omega⟩
  rw [ones, ones, noughts, hj, List.replicate_succ, List.set_append_right _ _ (by simp), List.length_replicate, Nat.sub_self, List.set_cons_zero, List.replicate_succ', noughts, show k - (i + 1) = j by omega]
  simp

set_option maxRecDepth 100000 in
theorem long_s (k : Nat) (w : World) (hk : k ≤ 100000) :
    Calls Try.prog 26 #[.int .i64 (k : Int)] w fun e w' => e = .returned (.string ⟨(List.replicate k 1).toArray⟩) ∧ Stp w w' := by
  obtain ⟨t, ht⟩ : ∃ t : L, List.replicate k 1 = t := ⟨_, rfl⟩
  rw [ht]
  have Ht := Lib.hid ht
  clear ht
  go_enter Try.func26, Try.ntmps26
  go_wp2_with (at_make; refine wpList_make_blk _ rfl _ _ 31 rfl 5 (.int .u8 0) 1 Try.underlying31 byte_info rfl .i64 .i64 (k : Int) k rfl rfl rfl (by omega) (by unfold maxLen; omega) ?_; intro w1 hb1 hs1 hg1)
  have hst : Stp w w1 := ⟨hg1.os, hg1.tape, hg1.output, hg1.size, fun j hj => hg1.block j hj (by simp)⟩
  have hb0 : Blk w1 w.heap.size 5 (bs (ones k 0)).toArray := by
    have e : (bs (ones k 0)).toArray = Array.replicate k (.int .u8 0) := by
      simp [ones, noughts, bs]
    rw [e]
    exact hb1
  have Hst := Lib.hid hst
  clear hb1 hs1 hg1 hst
  go_wp2_with fail
  go_loopw [4] (fun i wr => ∃ j : Nat, j ≤ k ∧ i = .int .i64 j ∧ Hid (Blk wr w.heap.size 5 (bs (ones k j)).toArray) ∧ Hid (Stp w wr)) (fun i _ => k - (intOf i).toNat)
  case atStart => exact ⟨0, by omega, rfl, Lib.hid hb0, Hst⟩
  case round =>
    obtain ⟨j, hj, rfl, Hb, Hs⟩ := hrel
    by_cases hlt : j < k
    · have hcell : wr.cell? ⟨w.heap.size, j, none⟩ = some (.int .u8 ((ones k j)[j]'(by rw [ones_length hj]; exact hlt)).toNat) := by
        rw [Hb.out.cell]
        simp [bs, ones_length hj, hlt]
      have hfree := Hb.out.free j
      go_wp2_with fail
      go_roundw
      case rel =>
        refine ⟨j + 1, by omega, by go_num, Lib.hid ?_, Lib.hid (Below.setCell Hs.out (p := ⟨w.heap.size, j, none⟩) (Nat.le_refl _) _)⟩
        have h := Hb.out.put j (.int .u8 1)
        rw [← ones_set hlt, bs_set]
        simpa using h
      case measure => simp [intOf]; omega
    · obtain rfl : j = k := by omega
      have hrd : Rd wr wr.heap.size (.slice (some ⟨w.heap.size, 0, none⟩) j j) (bs (List.replicate j 1)) := by
        have h := (Base.Own.of_blk (lo := 0) Hb.out (Nat.zero_le _) (n := j) (by simp [bs_length, ones_length]) (by unfold maxLen; omega)).rd
        simpa [ones, noughts] using h
      have hcv := run_string_rd (P := Try.prog) wr 31 9 5 Try.underlying31 Try.underlying5 Try.underlying9 _ _ _ hrd
      rw [Ht.out] at hcv
      clear hrd
      go_wp2_with fail
      go_ret
      exact ⟨rfl, Hs.out⟩

/-- At most 60 blocks, of at most 600 bytes each? -/
def fewV (ls : List L) : Bool := decide (ls.length ≤ 60) && ls.all fun b => decide (b.length ≤ 600)
theorem fewV_iff {ls : List L} : fewV ls = true ↔ ls.length ≤ 60 ∧ ∀ b ∈ ls, b.length ≤ 600 := by simp [fewV]

set_option maxRecDepth 100000 in
set_option maxHeartbeats 1000000 in
theorem few_s (ls : List L) (A : Option Addr) (c : Nat) (w : World) (ha : RdL w A c ls) (hl : ls.length < 9223372036854775808) (hls : ∀ l ∈ ls, l.length < 9223372036854775808) :
    Calls Try.prog 11 #[.slice A ls.length c] w fun e w' => e = .returned (.bool (fewV ls)) ∧ Stp w w' := by
  obtain ⟨r, hr⟩ : ∃ r, fewV ls = r := ⟨_, rfl⟩
  rw [hr]
  have Hr := Lib.hid hr
  have Hls := Lib.hid hls
  clear hr hls
  go_enter Try.func11, Try.ntmps11
  go_wp2_with fail
  go_loopw [3] (fun i wr => ∃ k : Nat, k ≤ ls.length ∧ k ≤ 61 ∧ i = .int .i64 k ∧ Stp w wr ∧ Hid (∀ b ∈ ls.take k, b.length ≤ 600)) (fun i _ => ls.length - (intOf i).toNat)
  case atStart => exact ⟨0, by omega, by omega, rfl, Stp.refl w, Lib.hid (by simp)⟩
  case round =>
    obtain ⟨k, hk, hk61, rfl, h0, Hk⟩ := hrel
    by_cases hlt : k < ls.length
    · have g1 : decide ((k : Int) < (ls.length : Int)) = true := decide_eq_true (by omega)
      by_cases h60 : k ≤ 60
      · have g2 : decide ((k : Int) ≤ 60) = true := decide_eq_true (by omega)
        obtain ⟨l, hl1⟩ : ∃ l, ls[k]? = some l := ⟨_, List.getElem?_eq_getElem hlt⟩
        have hll := Hls.out l (List.mem_of_getElem? hl1)
        obtain ⟨b, o, A1, c1, rfl, ca, ra⟩ := (ha.keep h0).at_ hl1
        have Hl1 := Lib.hid hl1
        clear hl1 ra
        by_cases h6 : l.length ≤ 600
        · have g3 : decide ((600 : Int) < (l.length : Int)) = false := decide_eq_false (by omega)
          have H6 := Lib.hid h6
          clear h6
          go_wp2_with fail
          go_roundw
          case rel =>
            refine ⟨k + 1, by omega, by omega, by go_num, h0, Lib.hid ?_⟩
            rw [List.take_add_one, Hl1.out]
            intro b hb
            rcases List.mem_append.1 hb with h | h
            · exact Hk.out b h
            · rw [show b = l by simpa using h]
              exact H6.out
          case measure => simp [intOf]; omega
        · have g3 : decide ((600 : Int) < (l.length : Int)) = true := decide_eq_true (by omega)
          have H6 := Lib.hid h6
          clear h6
          go_wp2_with fail
          go_ret
          refine ⟨?_, h0⟩
          have e : r = false := by
            rw [← Hr.out, Bool.eq_false_iff]
            intro h
            exact H6.out ((fewV_iff.1 h).2 l (List.mem_of_getElem? Hl1.out))
          rw [e]
          rfl
      · have g2 : decide ((k : Int) ≤ 60) = false := decide_eq_false (by omega)
        have g4 : decide ((ls.length : Int) ≤ 60) = false := decide_eq_false (by omega)
        go_wp2_with fail
        go_ret
        refine ⟨?_, h0⟩
        have e : r = false := by
          rw [← Hr.out, Bool.eq_false_iff]
          intro h
          have := (fewV_iff.1 h).1
          omega
        rw [e]
        rfl
    · obtain rfl : k = ls.length := by omega
      have e : r = decide (ls.length ≤ 60) := by
        rw [← Hr.out, Bool.eq_iff_iff, fewV_iff, decide_eq_true_eq]
        refine ⟨fun h => h.1, fun h => ⟨h, fun b hb => Hk.out b ?_⟩⟩
        rw [List.take_length]
        exact hb
      have He := Lib.hid e
      have e2 : decide ((ls.length : Int) ≤ 60) = decide (ls.length ≤ 60) := decide_eq_decide.2 (by omega)
      clear Hr e
      go_wp2_with fail
      go_ret
      exact ⟨by rw [He.out]; first | rfl | (rw [← e2]; rfl), h0⟩

/-- The chapter's example: 513 bytes 1 take two blocks. -/
theorem example_facts {s : L} (hs : s = List.replicate 513 1) :
    s.length = 513 ∧ (cutV s).length = 2 ∧ (cutV s)[1]? = some (1 :: noughts 511) := by
  have hl : s.length = 513 := by rw [hs, List.length_replicate]
  refine ⟨hl, by rw [cutV_length, hl]; rfl, ?_⟩
  rw [cutV_at (by rw [hl]; decide), hs, List.drop_replicate, blk]
  rfl

set_option maxRecDepth 100000 in
set_option maxHeartbeats 2000000 in
theorem awake_s (w : World) : Calls Try.prog 10 #[] w fun e w' => e = .returned (.bool true) ∧ Stp w w' := by
  have h0 := Stp.refl w
  obtain ⟨s, hs⟩ : ∃ s : L, s = List.replicate 513 1 := ⟨_, rfl⟩
  obtain ⟨f1, f2, f3⟩ := example_facts hs
  obtain ⟨ls, hls⟩ : ∃ ls, cutV s = ls := ⟨_, rfl⟩
  have m1 : manyV 513 = 2 := by decide
  have m2 : mayV ls = true := by rw [← hls]; exact cutV_may s
  have m3 : textB ls 513 = true := by rw [← hls, show (513 : Int) = (s.length : Int) by rw [f1]; rfl]; exact cutV_textB s
  have m4 : textV ls 513 = s := by rw [← hls, show (513 : Int) = (s.length : Int) by rw [f1]; rfl]; exact cutV_textV s
  have m5 : zeroV [] = true := rfl
  have m6 : (zerosV 2).length = 2 := by rw [zerosV_yes (by decide), blks_length]; rfl
  have m7 : (ls == ls) = true := by simp
  have f4 : (1 :: noughts 511).length = 512 := by simp [noughts]
  have f5 : (bs (1 :: noughts 511))[0]? = some (.int .u8 1) := rfl
  have f6 : (bs (1 :: noughts 511))[1]? = some (.int .u8 0) := rfl
  obtain ⟨l1, hl1⟩ : ∃ l1 : L, 1 :: noughts 511 = l1 := ⟨_, rfl⟩
  rw [hl1] at f3 f4 f5 f6
  rw [hls] at f2 f3
  have Hs := Lib.hid hs
  have Hls := Lib.hid hls
  have F2 := Lib.hid f2
  have F3 := Lib.hid f3
  have F4 := Lib.hid f4
  have F5 := Lib.hid f5
  have F6 := Lib.hid f6
  have M1 := Lib.hid m1
  have M2 := Lib.hid m2
  have M3 := Lib.hid m3
  have M4 := Lib.hid m4
  have M5 := Lib.hid m5
  have M6 := Lib.hid m6
  have M7 := Lib.hid m7
  clear hs hls f2 f3 f4 f5 f6 m1 m2 m3 m4 m5 m6 m7 hl1
  go_enter Try.func10, Try.ntmps10
  go_wp2_with (first
    | (go_at_call 26; refine (long_s 513 _ (by omega)).mono ?_; rintro e w' ⟨rfl, hs⟩; replace h0 := Stp.trans h0 hs; first | replace ha := RdL.keep ha hs | skip; clear hs; rw [← Hs.out])
    | (go_at_call 15; refine (cut_s s _ (by omega)).mono ?_; rintro e w' ⟨A, c, rfl, ha, hs⟩; replace h0 := Stp.trans h0 hs; clear hs; rw [Hls.out] at ha ⊢; rw [F2.out])
    | (go_at_call 12; have hc := text_s ls 513 _ _ _ ha (by rw [F2.out]; omega) (by omega) (by omega); rw [F2.out] at hc; refine hc.mono ?_; clear hc; rintro e w' ⟨rfl, hs⟩; replace h0 := Stp.trans h0 hs; replace ha := RdL.keep ha hs; clear hs; rw [M3.out, M4.out])
    | (go_at_call 21; refine (many_s 513 _ (by omega) (by omega)).mono ?_; rintro e w' ⟨rfl, hs⟩; replace h0 := Stp.trans h0 hs; replace ha := RdL.keep ha hs; clear hs; rw [M1.out])
    | (go_at_call 23; have hc := may_s ls _ _ _ ha (by rw [F2.out]; omega); rw [F2.out] at hc; refine hc.mono ?_; clear hc; rintro e w' ⟨rfl, hs⟩; replace h0 := Stp.trans h0 hs; replace ha := RdL.keep ha hs; clear hs; rw [M2.out]; obtain ⟨b, o, A1, c1, rfl, ca, ra⟩ := ha.at_ F3.out; obtain ⟨b1, o1, rfl, hcell⟩ := ra.at_ (j := 0) (by rw [bs_length, F4.out]; omega); rw [F4.out] at ca; have cb0 := hcell 0 _ F5.out; rw [Nat.add_zero] at cb0; have cb1 := hcell 1 _ F6.out; clear hcell ra)
    | (go_at_call 25; refine (zero_s [] none 0 _ (RdA.nil _) (by simp)).mono ?_; rintro e w' ⟨rfl, hs⟩; replace h0 := Stp.trans h0 hs; replace ha := RdL.keep ha hs; clear hs ca cb0 cb1; rw [M5.out])
    | (go_at_call 17; refine (zeros_s 2 _).mono ?_; rintro e w' ⟨A2, c2, rfl, _, hs⟩; replace h0 := Stp.trans h0 hs; replace ha := RdL.keep ha hs; clear hs; rw [M6.out])
    | (go_at_call 24; have hc := same_s ls ls _ _ _ _ _ ha ha (by rw [F2.out]; omega) (by rw [F2.out]; omega); rw [F2.out] at hc; refine hc.mono ?_; clear hc; rintro e w' ⟨rfl, hs⟩; replace h0 := Stp.trans h0 hs; clear hs; rw [M7.out]))
  go_ret
  exact ⟨rfl, h0⟩
end Go.Proofs.Ytfjkikodljdbeaa.Block
