/-
  Contracts of what the laws of package long share: a text, few bytes, the chapter's example: no statement is proved here.
-/
import Derived.Test.YtleoiejkipobbaaLongC3
import Derived.Test.YtleoiejkipobbaaBlockS
namespace Go.Proofs.Ytleoiejkipobbaa.Long
open Go.RowKit Go.Proofs.Ytleoiejkipobbaa.Str Go.Proofs.Ytleoiejkipobbaa.Base Go.Proofs.Ytleoiejkipobbaa.Node Go.Proofs.Ytleoiejkipobbaa.Head

/-- k bytes, the first i of them c, the others 0. -/
def some_ (c : UInt8) (k i : Nat) : L := List.replicate i c ++ List.replicate (k - i) 0
theorem some_length {c : UInt8} {k i : Nat} (h : i ≤ k) : (some_ c k i).length = k := by simp [some_]; omega
theorem some_set {c : UInt8} {k i : Nat} (h : i < k) : (some_ c k i).set i c = some_ c k (i + 1) := by
  obtain ⟨j, hj⟩ : ∃ j, k - i = j + 1 := ⟨k - i - 1, by omega⟩
  rw [some_, some_, hj, List.replicate_succ, List.set_append_right _ _ (by simp), List.length_replicate, Nat.sub_self, List.set_cons_zero, List.replicate_succ', show k - (i + 1) = j by omega]
  simp
set_option maxRecDepth 100000 in
theorem ltext_s (k : Nat) (kk : Int) (hkk : kk = (k : Int)) (w : World) (hk : k ≤ 100000) :
    Calls Try.prog 60 #[.int .i64 kk] w fun e w' => e = .returned (.string ⟨(List.replicate k 97).toArray⟩) ∧ Stp w w' := by
  subst hkk
  obtain ⟨t, ht⟩ : ∃ t : L, List.replicate k 97 = t := ⟨_, rfl⟩
  rw [ht]
  have Ht := Lib.hid ht
  clear ht
  go_enter Try.func60, Try.ntmps60
  go_wp2_with (at_make; refine wpList_make_blk _ rfl _ _ 24 rfl 5 (.int .u8 0) 1 Try.underlying24 Block.byte_info rfl .i64 .i64 (k : Int) k rfl rfl rfl (by omega) (by unfold maxLen; omega) ?_; intro w1 hb1 hs1 hg1)
  have hst : Stp w w1 := ⟨hg1.os, hg1.tape, hg1.output, hg1.size, fun j hj => hg1.block j hj (by simp)⟩
  have hb0 : Blk w1 w.heap.size 5 (bs (some_ 97 k 0)).toArray := by
    have e : (bs (some_ 97 k 0)).toArray = Array.replicate k (.int .u8 0) := by
      simp [some_, bs]
    rw [e]
    exact hb1
  have Hst := Lib.hid hst
  clear hb1 hs1 hg1 hst
  go_wp2_with fail
  go_loopw [4] (fun i wr => ∃ j : Nat, j ≤ k ∧ i = .int .i64 j ∧ Hid (Blk wr w.heap.size 5 (bs (some_ 97 k j)).toArray) ∧ Hid (Stp w wr)) (fun i _ => k - (intOf i).toNat)
  case atStart => exact ⟨0, by omega, rfl, Lib.hid hb0, Hst⟩
  case round =>
    obtain ⟨j, hj, rfl, Hb, Hs⟩ := hrel
    by_cases hlt : j < k
    · have hcell : wr.cell? ⟨w.heap.size, j, none⟩ = some (.int .u8 ((some_ 97 k j)[j]'(by rw [some_length hj]; exact hlt)).toNat) := by
        rw [Hb.out.cell]
        simp [bs, some_length hj, hlt]
      have hfree := Hb.out.free j
      go_wp2_with fail
      go_roundw
      case rel =>
        refine ⟨j + 1, by omega, by go_num, Lib.hid ?_, Lib.hid (Below.setCell Hs.out (p := ⟨w.heap.size, j, none⟩) (Nat.le_refl _) _)⟩
        have h := Hb.out.put j (.int .u8 97)
        rw [← some_set hlt, bs_set]
        simpa using h
      case measure => simp [intOf]; omega
    · obtain rfl : j = k := by omega
      have hrd : Rd wr wr.heap.size (.slice (some ⟨w.heap.size, 0, none⟩) j j) (bs (List.replicate j 97)) := by
        have h := (Base.Own.of_blk (lo := 0) Hb.out (Nat.zero_le _) (n := j) (by simp [bs_length, some_length]) (by unfold maxLen; omega)).rd
        simpa [some_] using h
      have hcv := run_string_rd (P := Try.prog) wr 24 9 5 Try.underlying24 Try.underlying5 Try.underlying9 _ _ _ hrd
      rw [Ht.out] at hcv
      clear hrd
      go_wp2_with fail
      go_ret
      exact ⟨rfl, Hs.out⟩

def fewN (n : Nd) : Bool := decide (n.path.length ≤ 400) && (decide (n.link.length ≤ 400) && decide (n.data.length ≤ 5000))
theorem fewN_iff {n : Nd} : fewN n = true ↔ n.path.length ≤ 400 ∧ n.link.length ≤ 400 ∧ n.data.length ≤ 5000 := by simp [fewN]
set_option maxRecDepth 100000 in
theorem few_s (n : Nd) (w : World) : Calls Try.prog 22 #[nv n] w fun e w' => e = .returned (.bool (fewN n)) ∧ Stp w w' := by
  have h0 := Stp.refl w
  obtain ⟨q0, q1, q2, q3, q4, q5, q6, q7⟩ := nd_cells (Blk.new w 35 (ncells n))
  go_enter Try.func22, Try.ntmps22
  go_wp2_with fail
  all_goals go_ret
  all_goals refine ⟨congrArg (fun b => Ending.returned (.bool b)) ?_, Stp.alloc h0 _⟩
  all_goals (unfold fewN; rw [Bool.eq_iff_iff])
  all_goals simp only [Bool.and_eq_true, decide_eq_true_eq, Bool.false_eq_true]
  · omega
  all_goals exact ⟨fun h => h.elim, fun h => by omega⟩

/-- The chapter's example. -/
def exT : L := List.replicate 120 97
def exN : Nd := { zeroN with path := exT }
theorem ex_facts : needN exN = true ∧ needL exN = false ∧ (aheadV exN).length = 2 ∧ (nameV exN).length = 100 ∧ preV exN = [] ∧ linkV exN = [] ∧ putOkL 76 exT = true ∧ (putLs 76 exT).length = 2 ∧ textL [97] = true ∧ textL [] = false := by decide +kernel
theorem ex_small : SmallN exN := by constructor <;> decide
set_option maxRecDepth 100000 in
set_option maxHeartbeats 2000000 in
theorem awake_s (w : World) : Calls Try.prog 21 #[] w fun e w' => e = .returned (.bool true) ∧ Stp w w' := by
  have h0 := Stp.refl w
  obtain ⟨f1, f2, f3, f4, f5, f6, f7, f8, f9, f10⟩ := ex_facts
  obtain ⟨T, hT⟩ : ∃ t : L, List.replicate 120 97 = t := ⟨_, rfl⟩
  have HT := Lib.hid hT
  have he : exN = { zeroN with path := T } := by rw [← hT]; rfl
  obtain ⟨N, hN⟩ : ∃ N, exN = N := ⟨_, rfl⟩
  have hN2 : N = { zeroN with path := T } := by rw [← hN, he]
  have Hs := Lib.hid (show SmallN N by rw [← hN]; exact ex_small)
  have hp : N.path.length = 120 := by rw [← hN]; rfl
  have hk : N.link.length = 0 := by rw [← hN]; rfl
  have Hp := Lib.hid hp
  have Hk := Lib.hid hk
  rw [hN] at f1 f2 f3 f4 f5 f6
  rw [show exT = T from hT] at f7 f8
  have F1 := Lib.hid f1
  have F2 := Lib.hid f2
  have F3 := Lib.hid f3
  have F5 := Lib.hid f5
  have F6 := Lib.hid f6
  have F7 := Lib.hid f7
  have F8 := Lib.hid f8
  have F9 := Lib.hid f9
  have F10 := Lib.hid f10
  obtain ⟨nm, hnm⟩ : ∃ x, nameV N = x := ⟨_, rfl⟩
  have Hnm := Lib.hid hnm
  rw [hnm] at f4
  have g4 : ((nm.length : Int) == 100) = true := by rw [f4]; rfl
  have hc : (#[.string ⟨T.toArray⟩, .string ⟨#[]⟩, .int .u8 0, .int .i64 0, .int .i64 0, .int .i64 0, .int .i64 0, .string ⟨#[]⟩] : Array Value) = ncells N := by rw [hN2]; rfl
  have Hv := Lib.hid (congrArg Value.agg hc)
  have Hc := Lib.hid hc
  clear f1 f2 f3 f4 f5 f6 f7 f8 f9 f10 hT he hN hN2 hp hk hnm hc
  go_enter Try.func21, Try.ntmps21
  go_wp2_with (first
    | (go_at_call 60; refine (ltext_s 120 _ rfl _ (by omega)).mono ?_; rintro e w1 ⟨rfl, hs⟩; rw [HT.out]; (try (replace Hb3 := Lib.hid (Hb3.out.keep hs Hb3.out.lt))); replace h0 := Stp.trans h0 hs; clear hs)
    | (go_at_call 25; (with_reducible refine (needs_v N _ Hv.out Hs.out _).mono ?_); rintro e w2 ⟨rfl, hs⟩; rw [F1.out, F2.out]; have Hb2 := Lib.hid (show Blk w2 _ 35 (ncells N) by rw [← Hc.out]; exact (Blk.new w1 35 _).keep hs (Blk.new w1 35 _).lt); replace h0 := Stp.trans (Stp.alloc h0 _) hs; clear hs; obtain ⟨q0, q1, q2, q3, q4, q5, q6, q7⟩ := nd_cells Hb2.out)
    | (go_at_call 27; refine (names_s N Hs.out _).mono ?_; rintro e w3 ⟨rfl, hs⟩; rw [Hnm.out, F5.out, F6.out]; have Hb3 := Lib.hid (Hb2.out.keep hs Hb2.out.lt); replace h0 := Stp.trans h0 hs; clear hs q0 q1 q2 q3 q4 q5 q6 q7 Hb2)
    | (go_at_call 23; (with_reducible refine (lput_v 76 _ e76 T _ (by rw [← HT.out]; simp)).mono ?_); rintro e w4 ⟨A4, c4, rfl, hr, hs⟩; rw [F7.out, F8.out]; have Hb4 := Lib.hid (Hb3.out.keep hs Hb3.out.lt); replace h0 := Stp.trans h0 hs; clear hs hr; obtain ⟨q0, q1, q2, q3, q4, q5, q6, q7⟩ := nd_cells Hb4.out)
    | (go_at_call 30; refine (ahead_s N Hs.out (by rw [Hp.out]; omega) (by rw [Hk.out]; omega) _).mono ?_; rintro e w5 ⟨A5, c5, rfl, hr, hs⟩; rw [F3.out]; replace h0 := Stp.trans h0 hs; clear hs hr q0 q1 q2 q3 q4 q5 q6 q7)
    | (go_at_call 33; (with_reducible refine (text_v [97] _ rfl _).mono ?_); rintro e w6 ⟨rfl, hs⟩; rw [F9.out]; replace h0 := Stp.trans h0 hs; clear hs)
    | (go_at_call 33; (with_reducible refine (text_v [] _ rfl _).mono ?_); rintro e w7 ⟨rfl, hs⟩; rw [F10.out]; replace h0 := Stp.trans h0 hs; clear hs))
  go_ret
  exact ⟨rfl, h0⟩
end Go.Proofs.Ytleoiejkipobbaa.Long
