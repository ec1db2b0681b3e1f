/-
  What the walks of package entry's laws ask of its code, and the chapter's example: no statement is proved here.
-/
import Derived.Test.YtihigbaaajmjlaaEntryM
import Derived.Test.YtihigbaaajmjlaaTreeC4
import Derived.Test.YtihigbaaajmjlaaLongTx
import Derived.Test.YtihigbaaajmjlaaHeadMay2
import Derived.Test.YtihigbaaajmjlaaBlockRef
namespace Go.Proofs.Ytihigbaaajmjlaa.Entry
open Go.RowKit Go.Proofs.Ytihigbaaajmjlaa.Str Go.Proofs.Ytihigbaaajmjlaa.Base Go.Proofs.Ytihigbaaajmjlaa.Node Go.Proofs.Ytihigbaaajmjlaa.Head Go.Proofs.Ytihigbaaajmjlaa.Long
open Go.Proofs.Ytihigbaaajmjlaa.Tree (oneB)

theorem headV_yes {n : Nd} (h : oneB n = true) : headV n = headE n := by rw [headV, if_pos h]
theorem headV_no {n : Nd} (h : oneB n = false) : headV n = zeroH := by rw [headV, if_neg (by simp [h])]
theorem dataE_yes {n : Nd} (h : oneB n = true) : dataE n = BlockM.manyN n.data.length := by rw [dataE, if_pos h]
theorem dataE_no {n : Nd} (h : oneB n = false) : dataE n = 0 := by rw [dataE, if_neg (by simp [h])]

/-- The contracts of the four calls. -/
structure EntryI : Prop where
  head : ∀ (n : Nd) (v : Value), v = nv n → SmallN n → ∀ w : World, Calls Try.prog 11 #[v] w fun e w' => e = .returned (.tuple #[hv (headV n), .bool (oneB n)]) ∧ Stp w w'
  put : ∀ (n : Nd) (v : Value), v = nv n → SmallN n → ∀ w : World, Calls Try.prog 13 #[v] w fun e w' => ∃ A cap, e = .returned (.tuple #[.slice A (putE n).length cap, .bool (oneB n)]) ∧ RdL w' A cap (putE n) ∧ Stp w w'
  many : ∀ (n : Nd) (v : Value), v = nv n → SmallN n → ∀ w : World, Calls Try.prog 16 #[v] w fun e w' => e = .returned (.int .i64 ((putE n).length : Int)) ∧ Stp w w'
  data : ∀ (n : Nd) (v : Value), v = nv n → SmallN n → ∀ w : World, Calls Try.prog 18 #[v] w fun e w' => e = .returned (.int .i64 (dataE n : Int)) ∧ Stp w w'

def exE (t : L) : Nd := ⟨[97], [], 48, 0, 0, 0, 0, t⟩
theorem exE_facts : oneB (exE (List.replicate 513 0)) = true ∧ (putE (exE (List.replicate 513 0))).length = 3 ∧ dataE (exE (List.replicate 513 0)) = 2 ∧ (headV (exE (List.replicate 513 0))).size = 513 := by
  have h1 : oneB (exE (List.replicate 513 0)) = true := by decide +kernel
  have h2 : needL (exE (List.replicate 513 0)) = false := by decide +kernel
  have h3 : needN (exE (List.replicate 513 0)) = false := by decide +kernel
  refine ⟨h1, ?_, ?_, ?_⟩
  · rw [putE_length h1, ahead_length h1, h2, h3]
    decide +kernel
  · rw [dataE_yes h1]
    decide +kernel
  · rw [headV_yes h1]
    show ((List.replicate 513 (0 : UInt8)).length : Int) = 513
    rw [List.length_replicate]
    rfl
theorem bs_noughts (k : Nat) : (bs (List.replicate k 0)).toArray = Array.replicate k (.int .u8 0) := by simp [bs]
theorem ex_conv {w1 : World} {g : Nat} {t : L} (ht : List.replicate 513 0 = t) (hb : Blk w1 g 5 (Array.replicate 513 (.int .u8 0))) :
    (convert 39 9 (.slice (some ⟨g, 0, none⟩) 513 513)).run Try.prog w1 = .ok (.string ⟨t.toArray⟩) w1 := by
  subst ht
  rw [← bs_noughts] at hb
  have h := (Base.Own.of_blk (lo := 0) hb (Nat.zero_le _) (n := 513) (by rw [List.size_toArray, bs_length, List.length_replicate]) (by unfold maxLen; omega)).rd
  rw [List.toList_toArray] at h
  exact run_string_rd (P := Try.prog) w1 39 9 5 Try.underlying39 Try.underlying5 Try.underlying9 _ _ _ h
theorem made_stp {w w1 : World} (hg1 : w.grownBy w1 none) : Stp w w1 := ⟨hg1.os, hg1.tape, hg1.output, hg1.size, fun j hj => hg1.block j hj (by simp)⟩
set_option maxRecDepth 100000 in
set_option maxHeartbeats 2000000 in
theorem awake_s (I : EntryI) (w : World) : Calls Try.prog 9 #[] w fun e w' => e = .returned (.bool true) ∧ Stp w w' := by
  have h0 := Stp.refl w
  obtain ⟨t, ht⟩ : ∃ t : L, List.replicate 513 0 = t := ⟨_, rfl⟩
  obtain ⟨f1, f2, f3, f4⟩ := exE_facts
  rw [ht] at f1 f2 f3 f4
  have hsm : SmallN (exE t) := by rw [← ht]; constructor <;> (unfold exE; simp)
  have Hsm := Lib.hid hsm
  obtain ⟨X, hX⟩ : ∃ x, exE t = x := ⟨_, rfl⟩
  have F1 := Lib.hid f1
  have F2 := Lib.hid f2
  have F3 := Lib.hid f3
  obtain ⟨H, hH⟩ : ∃ x, headV (exE t) = x := ⟨_, rfl⟩
  rw [hH] at f4
  have HH := Lib.hid hH
  have gs : (H.size == 513) = true := by rw [f4]; rfl
  have Ht := Lib.hid ht
  have HI := Lib.hid I
  clear ht f1 f2 f3 f4 hsm hH hX I
  go_enter Try.func9, Try.ntmps9
  go_wp2_with (first
    | (at_make; refine wpList_make_blk _ rfl _ _ 39 rfl 5 (.int .u8 0) 1 Try.underlying39 Block.byte_info rfl .i64 .i64 513 513 rfl rfl rfl (by omega) (by unfold maxLen; omega) ?_; intro w1 hb1 hs1 hg1; have hcv := ex_conv Ht.out hb1; replace h0 := Lib.hid (made_stp hg1); clear hb1 hs1 hg1)
    | (go_at_call 13; refine (HI.out.put (exE t) _ rfl Hsm.out _).mono ?_; rintro e w2 ⟨A2, c2, rfl, hr, hs⟩; rw [F1.out, F2.out]; have Hb := Lib.hid (show Blk w2 w1.heap.size 23 (ncells (exE t)) from Blk.keep (Blk.new w1 23 (ncells (exE t))) hs (Blk.lt (Blk.new w1 23 (ncells (exE t))))); replace h0 := Lib.hid (Stp.trans (Stp.alloc h0.out _) hs); clear hr hs; obtain ⟨q0, q1, q2, q3, q4, q5, q6, q7⟩ := nd_cells Hb.out)
    | (go_at_call 11; refine (HI.out.head (exE t) _ rfl Hsm.out _).mono ?_; rintro e w3 ⟨rfl, hs⟩; rw [F1.out, HH.out]; replace Hb := Lib.hid (Hb.out.keep hs Hb.out.lt); replace h0 := Lib.hid (Stp.trans h0.out hs); have Hw := Lib.hid (Hb.out.alloc (.cells (hcells H) 27)); clear hs q0 q1 q2 q3 q4 q5 q6 q7; obtain ⟨q0, q1, q2, q3, q4, q5, q6, q7⟩ := nd_cells Hw.out)
    | (go_at_call 16; refine (HI.out.many (exE t) _ rfl Hsm.out _).mono ?_; rintro e w4 ⟨rfl, hs⟩; rw [F2.out]; have Hh := Lib.hid (Blk.keep (Blk.new w3 27 (hcells H)) hs (Blk.lt (Blk.new w3 27 (hcells H)))); have Hc := Lib.hid (Hw.out.keep hs Hw.out.lt); replace h0 := Lib.hid (Stp.trans (Stp.alloc h0.out _) hs); clear hs q0 q1 q2 q3 q4 q5 q6 q7; obtain ⟨q0, q1, q2, q3, q4, q5, q6, q7⟩ := nd_cells Hc.out)
    | (go_at_call 18; refine (HI.out.data (exE t) _ rfl Hsm.out _).mono ?_; rintro e w5 ⟨rfl, hs⟩; rw [F3.out]; replace Hh := Lib.hid (Hh.out.keep hs Hh.out.lt); replace h0 := Lib.hid (Stp.trans h0.out hs); clear hs q0 q1 q2 q3 q4 q5 q6 q7; obtain ⟨x0, x1, x2, x3, x4, x5, x6, x7, x8, x9, x10⟩ := hd_cells Hh.out))
  all_goals go_ret
  all_goals exact ⟨rfl, h0.out⟩
end Go.Proofs.Ytihigbaaajmjlaa.Entry
