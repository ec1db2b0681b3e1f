/-
  What the walks of package cont's laws ask of its code, and the chapter's example: no statement is proved here.
-/
import Derived.Test.YtagkdodjffhlmaaGreatContM
import Derived.Test.YtagkdodjffhlmaaGreatLongTx
import Derived.Test.YtagkdodjffhlmaaGreatHeadMay
import Derived.Test.YtagkdodjffhlmaaGreatBlockRef
namespace Go.Proofs.YtagkdodjffhlmaaGreat.Cont
open Go.RowKit Go.Proofs.YtagkdodjffhlmaaGreat.Str Go.Proofs.YtagkdodjffhlmaaGreat.Base Go.Proofs.YtagkdodjffhlmaaGreat.Node Go.Proofs.YtagkdodjffhlmaaGreat.Head Go.Proofs.YtagkdodjffhlmaaGreat.Long Go.Proofs.YtagkdodjffhlmaaGreat.ContM
open Go.Proofs.YtagkdodjffhlmaaGreat.Tree (oneB)
set_option linter.unusedVariables false
abbrev L := List UInt8

/-- The contracts of the four calls. -/
structure ContI : Prop where
  may : ∀ (n : Nd) (v : Value), v = nv n → SmallN n → ∀ (off : Int) (b : Bool), mayC n off = b → ∀ w : World, Calls Tryz.prog 13 #[v, .int .i64 off] w fun e w' => e = .returned (.bool b) ∧ Stp w w'
  many : ∀ (n : Nd) (v : Value), v = nv n → SmallN n → ∀ (m : Int), manyC n = m → ∀ w : World, Calls Tryz.prog 14 #[v] w fun e w' => e = .returned (.int .i64 m) ∧ Stp w w'
  put : ∀ (n : Nd) (v : Value), v = nv n → SmallN n → ∀ (off : Int) (ls : List L), putC n off = ls → ∀ (z : Nat), ls.length = z → ∀ (b : Bool), mayC n off = b → ∀ w : World, Calls Tryz.prog 7 #[v, .int .i64 off] w fun e w' => ∃ A c, e = .returned (.tuple #[.slice A z c, .bool b]) ∧ RdL w' A c ls ∧ Stp w w'
  get : ∀ (ls : List L) (z : Nat), ls.length = z → z < 9223372036854775808 → (∀ l ∈ ls, l.length < 9223372036854775808) → ∀ (m : Nd) (off whole k : Int) (b : Bool), getC ls = (m, off, whole, k, b) → ∀ (A : Option Addr) (c : Nat) (w : World), RdL w A c ls → Calls Tryz.prog 9 #[.slice A z c] w fun e w' => e = .returned (.tuple #[nv m, .int .i64 off, .int .i64 whole, .int .i64 k, .bool b]) ∧ Stp w w'

def exC (t : L) : Nd := ⟨[97], [], 48, 0, 0, 0, 0, t⟩
theorem exC_facts {t : L} (ht : List.replicate 1000 0 = t) : mayC (exC t) 512 = true ∧ mayC (exC t) 1024 = false ∧ manyC (exC t) = 1 ∧ (putC (exC t) 512).length = 1 ∧ getC (putC (exC t) 512) = (exC [], 512, 1000, 1, true) := by
  subst ht
  have h1 : mayC (exC (List.replicate 1000 0)) 512 = true := by decide +kernel
  have h2 : mayC (exC (List.replicate 1000 0)) 1024 = false := by decide +kernel
  have h3 : manyC (exC (List.replicate 1000 0)) = 1 := by decide +kernel
  have h4 := putC_length h1
  rw [h3] at h4
  have h5 : (putC (exC (List.replicate 1000 0)) 512).length = 1 := by omega
  have h6 := get_of (l := putC (exC (List.replicate 1000 0)) 512) h1 (by rw [List.take_length])
  rw [h5] at h6
  refine ⟨h1, h2, h3, h5, h6.trans ?_⟩
  have : (exC (List.replicate 1000 0)).data.length = 1000 := by show (List.replicate 1000 (0 : UInt8)).length = 1000; rw [List.length_replicate]
  rw [this]
  rfl
theorem bs_noughts (k : Nat) : (bs (List.replicate k 0)).toArray = Array.replicate k (.int .u8 0) := by simp [bs]
theorem nou_conv {w1 : World} {g : Nat} {t : L} (k : Nat) (hk : k ≤ 100000) (ht : List.replicate k 0 = t) (hb : Blk w1 g 5 (Array.replicate k (.int .u8 0))) :
    (convert 36 9 (.slice (some ⟨g, 0, none⟩) k k)).run Tryz.prog w1 = .ok (.string ⟨t.toArray⟩) w1 := by
  subst ht
  rw [← bs_noughts] at hb
  have h := (Base.Own.of_blk (lo := 0) hb (Nat.zero_le _) (n := k) (by rw [List.size_toArray, bs_length, List.length_replicate]) (by unfold maxLen; omega)).rd
  rw [List.toList_toArray] at h
  have h2 := run_string_rd (P := Tryz.prog) w1 36 9 5 Tryz.underlying36 Tryz.underlying5 Tryz.underlying9 _ _ _ h
  exact h2
theorem made_stp {w w1 : World} (hg1 : w.grownBy w1 none) : Stp w w1 := ⟨hg1.os, hg1.tape, hg1.output, hg1.size, fun j hj => hg1.block j hj (by simp)⟩
set_option maxRecDepth 100000 in
set_option maxHeartbeats 4000000 in
theorem awake_s (I : ContI) (w : World) : Calls Tryz.prog 4 #[] w fun e w' => e = .returned (.bool true) ∧ Stp w w' := by
  have h0 := Lib.hid (Stp.refl w)
  obtain ⟨t, ht⟩ : ∃ t : L, List.replicate 1000 0 = t := ⟨_, rfl⟩
  obtain ⟨f1, f2, f3, f4, f5⟩ := exC_facts ht
  have hsm : SmallN (exC t) := by rw [← ht]; constructor <;> (unfold exC; simp)
  have fp : ∀ l ∈ putC (exC t) 512, l.length < 9223372036854775808 := fun l hl => by have := BlockM.mayV_iff.1 (putC_may (exC t) 512) l hl; omega
  obtain ⟨P, hP⟩ : ∃ P, putC (exC t) 512 = P := ⟨_, rfl⟩
  obtain ⟨M, hM⟩ : ∃ M, exC [] = M := ⟨_, rfl⟩
  rw [hP] at f4 f5 fp
  have FP := Lib.hid fp
  rw [hM] at f5
  have k9 : (M.path == [97]) = true := by rw [← hM]; rfl
  have Hsm := Lib.hid hsm
  have F1 := Lib.hid f1
  have F2 := Lib.hid f2
  have F3 := Lib.hid f3
  have F4 := Lib.hid f4
  have F5 := Lib.hid f5
  have HP := Lib.hid hP
  have Ht := Lib.hid ht
  have HI := Lib.hid I
  clear ht f1 f2 f3 f4 f5 hsm hP I hM fp
  go_enter Tryz.func4, Tryz.ntmps4
  go_wp2_with (first
    | (at_make; refine wpList_make_blk _ rfl _ _ 36 rfl 5 (.int .u8 0) 1 Tryz.underlying36 Block.byte_info rfl .i64 .i64 1000 1000 rfl rfl rfl (by omega) (by unfold maxLen; omega) ?_; intro w1 hb1 hs1 hg1; have hcv := nou_conv 1000 (by omega) Ht.out hb1; replace h0 := Lib.hid (made_stp hg1); clear hb1 hs1 hg1)
    | (go_at_call 7; refine (HI.out.put (exC t) _ rfl Hsm.out 512 P HP.out 1 F4.out true F1.out _).mono ?_; rintro e w2 ⟨A2, c2, rfl, hr, hs⟩; have Hr := Lib.hid hr; have Hb := Lib.hid (show Blk w2 w1.heap.size 23 (ncells (exC t)) from Blk.keep (Blk.new w1 23 (ncells (exC t))) hs (Blk.lt (Blk.new w1 23 (ncells (exC t))))); replace h0 := Lib.hid (Stp.trans (Stp.alloc h0.out _) hs); clear hr hs)
    | (go_at_call 9; refine (HI.out.get P 1 F4.out (by omega) FP.out M 512 1000 1 true F5.out A2 c2 _ Hr.out).mono ?_; rintro e w3 ⟨rfl, hs⟩; replace Hb := Lib.hid ((Hb.out.keep hs Hb.out.lt).alloc (.cells (ncells M) 23)); have Hk := Lib.hid (Blk.new w3 23 (ncells M)); replace h0 := Lib.hid (Stp.alloc (Stp.trans h0.out hs) (.cells (ncells M) 23)); clear hs; obtain ⟨q0, q1, q2, q3, q4, q5, q6, q7⟩ := nd_cells Hb.out; obtain ⟨x0, x1, x2, x3, x4, x5, x6, x7⟩ := nd_cells Hk.out)
    | (go_at_call 14; refine (HI.out.many (exC t) _ rfl Hsm.out 1 F3.out _).mono ?_; rintro e w4 ⟨rfl, hs⟩; replace Hb := Lib.hid (Hb.out.keep hs Hb.out.lt); replace h0 := Lib.hid (Stp.trans h0.out hs); clear hs q0 q1 q2 q3 q4 q5 q6 q7 x0 x1 x2 x3 x4 x5 x6 x7; obtain ⟨q0, q1, q2, q3, q4, q5, q6, q7⟩ := nd_cells Hb.out)
    | (go_at_call 13; (with_reducible refine (HI.out.may (exC t) _ rfl Hsm.out 512 true F1.out _).mono ?_); rintro e w5 ⟨rfl, hs⟩; replace Hb := Lib.hid (Hb.out.keep hs Hb.out.lt); replace h0 := Lib.hid (Stp.trans h0.out hs); clear hs q0 q1 q2 q3 q4 q5 q6 q7; obtain ⟨q0, q1, q2, q3, q4, q5, q6, q7⟩ := nd_cells Hb.out)
    | (go_at_call 13; (with_reducible refine (HI.out.may (exC t) _ rfl Hsm.out 1024 false F2.out _).mono ?_); rintro e w6 ⟨rfl, hs⟩; replace h0 := Lib.hid (Stp.trans h0.out hs); clear hs q0 q1 q2 q3 q4 q5 q6 q7))
  all_goals go_ret
  all_goals exact ⟨rfl, h0.out⟩
end Go.Proofs.YtagkdodjffhlmaaGreat.Cont
