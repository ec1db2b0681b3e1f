/-
  What the walks of package parse's laws ask of its code, the chapter's example, and has a state few bytes: no statement is proved here.
-/
import Derived.Test.YtgjdbbhfgfodlaaParseM
import Derived.Test.YtgjdbbhfgfodlaaEvs
import Derived.Test.YtgjdbbhfgfodlaaLongTx
import Derived.Test.YtgjdbbhfgfodlaaBlockK
import Derived.Test.YtgjdbbhfgfodlaaEntryI
namespace Go.Proofs.Ytgjdbbhfgfodlaa.Parse
open Go.RowKit Go.Proofs.Ytgjdbbhfgfodlaa.Str Go.Proofs.Ytgjdbbhfgfodlaa.Base Go.Proofs.Ytgjdbbhfgfodlaa.Node Go.Proofs.Ytgjdbbhfgfodlaa.Long
open Go.Proofs.Ytgjdbbhfgfodlaa.Tree (oneB)

/-- Run's contract. -/
def RunI : Prop := ∀ (s : St) (v : Value), v = sv s → SmallS s → ∀ (l : List L) (n : Nat), l.length = n → n ≤ 1000 → (∀ b ∈ l, b.length < 9223372036854775808) → ∀ (t : St) (y : List Evt) (k m : Nat) (e0 : Int), runS s l = (t, y, m, e0) → y.length = k → ∀ (A : Option Addr) (c : Nat) (w : World), RdL w A c l →
    Calls Try.prog 14 #[v, .slice A n c] w fun e w' => ∃ B d, e = .returned (.tuple #[sv t, .slice B k d, .int .i64 (m : Int), .int .i64 e0]) ∧ RdE w' B d y ∧ Stp w w'
/-- The contracts of the four calls. -/
structure ParseI : Prop where
  may : ∀ (s : St) (v : Value), v = sv s → SmallS s → ∀ w : World, Calls Try.prog 30 #[v] w fun e w' => e = .returned (.bool (mayS s)) ∧ Stp w w'
  step : ∀ (s : St) (v : Value), v = sv s → SmallS s → ∀ (b : L) (n : Nat), b.length = n → n < 9223372036854775808 → ∀ (t : St) (y : List Evt) (k : Nat) (e0 : Int), stepS s b = (t, y, e0) → y.length = k → ∀ (A : Option Addr) (c : Nat) (w : World), RdA w A c (bs b) →
    Calls Try.prog 15 #[v, .slice A n c] w fun e w' => ∃ B d, e = .returned (.tuple #[sv t, .slice B k d, .int .i64 e0]) ∧ RdE w' B d y ∧ Stp w w'
  run : ∀ (s : St) (v : Value), v = sv s → SmallS s → ∀ (l : List L) (n : Nat), l.length = n → n ≤ 1000 → (∀ b ∈ l, b.length < 9223372036854775808) → ∀ (t : St) (y : List Evt) (k m : Nat) (e0 : Int), runS s l = (t, y, m, e0) → y.length = k → ∀ (A : Option Addr) (c : Nat) (w : World), RdL w A c l →
    Calls Try.prog 14 #[v, .slice A n c] w fun e w' => ∃ B d, e = .returned (.tuple #[sv t, .slice B k d, .int .i64 (m : Int), .int .i64 e0]) ∧ RdE w' B d y ∧ Stp w w'
  same : ∀ (xs ys : List Evt) (m n : Nat), xs.length = m → ys.length = n → m ≤ 3000 → n ≤ 3000 → ∀ (A B : Option Addr) (c d : Nat) (w : World), RdE w A c xs → RdE w B d ys →
    Calls Try.prog 31 #[.slice A m c, .slice B n d] w fun e w' => e = .returned (.bool (decide (xs = ys))) ∧ Stp w w'

/-- A state that lies in a block. -/
theorem st_cells {w : World} {g : Nat} {t : TypeId} {s : St} (hb : Blk w g t (scells s)) :
    w.cell? ⟨g, 0, none⟩ = some (.int .i64 s.phase) ∧ w.cell? ⟨g, 1, none⟩ = some (.string ⟨s.node.path.toArray⟩) ∧ w.cell? ⟨g, 2, none⟩ = some (.string ⟨s.node.link.toArray⟩) ∧ w.cell? ⟨g, 3, none⟩ = some (.int .u8 (s.node.kind.toNat : Int)) ∧ w.cell? ⟨g, 4, none⟩ = some (.int .i64 s.node.mode) ∧
    w.cell? ⟨g, 5, none⟩ = some (.int .i64 s.node.uid) ∧ w.cell? ⟨g, 6, none⟩ = some (.int .i64 s.node.gid) ∧ w.cell? ⟨g, 7, none⟩ = some (.int .i64 s.node.time) ∧ w.cell? ⟨g, 8, none⟩ = some (.string ⟨s.node.data.toArray⟩) ∧ w.cell? ⟨g, 9, none⟩ = some (.int .i64 s.size) ∧ w.cell? ⟨g, 10, none⟩ = some (.int .i64 s.left) ∧
    w.cell? ⟨g, 11, none⟩ = some (.string ⟨s.text.toArray⟩) ∧ w.cell? ⟨g, 12, none⟩ = some (.string ⟨s.name.toArray⟩) ∧ w.cell? ⟨g, 13, none⟩ = some (.string ⟨s.link.toArray⟩) := by
  refine ⟨?_, ?_, ?_, ?_, ?_, ?_, ?_, ?_, ?_, ?_, ?_, ?_, ?_, ?_⟩ <;> (rw [hb.cell]; rfl)

/-- Has a state few bytes? -/
def fewS (s : St) : Bool := fewN s.node && (decide (s.text.length ≤ 400) && (decide (s.name.length ≤ 400) && decide (s.link.length ≤ 400)))
/-! ### the chapter's example -/
abbrev z512 : L := List.replicate 512 0
theorem run_zeros {z : L} (hz : z512 = z) : runS zeroS [z, z, z] = (phS 5, [], 2, 0) ∧ stepS (phS 5) z = (phS 5, [], 17) := by
  have hl : z.length = 512 := by rw [← hz]; decide +kernel
  have hv : BlockM.zeroV z = true := by rw [← hz]; decide +kernel
  have hc : Head.codeB z = 4 := by
    unfold Head.codeB
    rw [if_pos hl, if_pos (by rw [← hz]; rfl)]
  have e1 : stepS zeroS z = (phS 4, [], 0) := by
    unfold stepS headS
    rw [if_neg (by rw [zeroS_may]; simp [hl]), if_neg (by decide), if_neg (by decide), if_neg (by decide), if_neg (by decide), if_pos hc, if_pos ⟨rfl, rfl⟩]
  have e2 : stepS (phS 4) z = (phS 5, [], 0) := by
    unfold stepS
    rw [if_neg (by rw [phS_may (.inl rfl)]; simp [hl]), if_neg (by decide), if_pos (show (phS 4).phase = 4 from rfl), if_pos hv]
  have e3 : stepS (phS 5) z = (phS 5, [], 17) := by
    unfold stepS
    rw [if_neg (by rw [phS_may (.inr rfl)]; simp [hl]), if_pos (show (phS 5).phase = 5 from rfl)]
  refine ⟨?_, e3⟩
  rw [run_on _ (by rw [e1]) (by rw [e1]; decide), e1]
  simp only
  rw [run_end _ (by rw [e2]) (by rw [e2]; rfl), e2]
  rfl
theorem lit_three {w : World} {A : Option Addr} {c n : Nat} {z : L} {e : TypeId} (h : RdA w A c (bs z)) (hn : z.length = n) :
    RdL (w.alloc (.cells #[.slice A n c, .slice A n c, .slice A n c] e)) (some ⟨w.heap.size, 0, none⟩) 3 [z, z, z] := by
  subst hn
  have hk := h.keep (Stp.alloc (Stp.refl w) (.cells #[.slice A z.length c, .slice A z.length c, .slice A z.length c] e))
  unfold RdA at hk
  rw [bs_length] at hk
  have ho := (Base.Own.of_blk (lo := 0) (Blk.new w e #[.slice A z.length c, .slice A z.length c, .slice A z.length c]) (Nat.zero_le _) (n := 3) rfl (by unfold maxLen; omega)).rd
  refine ⟨[.slice A z.length c, .slice A z.length c, .slice A z.length c], rfl, ho, fun j l hj => ?_⟩
  match j, hj with
  | 0, hj => simp only [List.getElem?_cons_zero, Option.some.injEq] at hj; subst hj; exact ⟨_, rfl, hk⟩
  | 1, hj => simp only [List.getElem?_cons_succ, List.getElem?_cons_zero, Option.some.injEq] at hj; subst hj; exact ⟨_, rfl, hk⟩
  | 2, hj => simp only [List.getElem?_cons_succ, List.getElem?_cons_zero, Option.some.injEq] at hj; subst hj; exact ⟨_, rfl, hk⟩
  | j + 3, hj => simp at hj
theorem made_rd {w1 : World} {g : Nat} {z : L} (hz : z512 = z) (hb : Blk w1 g 5 (Array.replicate 512 (.int .u8 0))) : RdA w1 (some ⟨g, 0, none⟩) 512 (bs z) := by
  subst hz
  rw [← Entry.bs_noughts] at hb
  have h := (Base.Own.of_blk (lo := 0) hb (Nat.zero_le _) (n := 512) (by rw [List.size_toArray, bs_length, List.length_replicate]) (by unfold maxLen; omega)).rd
  rw [List.toList_toArray] at h
  unfold RdA
  rw [bs_length, List.length_replicate]
  exact h

theorem zero_sv : Value.agg #[.int .i64 0, .string ⟨#[]⟩, .string ⟨#[]⟩, .int .u8 0, .int .i64 0, .int .i64 0, .int .i64 0, .int .i64 0, .string ⟨#[]⟩, .int .i64 0, .int .i64 0, .string ⟨#[]⟩, .string ⟨#[]⟩, .string ⟨#[]⟩] = sv zeroS := rfl
set_option maxRecDepth 100000 in
set_option maxHeartbeats 2000000 in
theorem awake_s (I : ParseI) (w : World) : Calls Try.prog 10 #[] w fun e w' => e = .returned (.bool true) ∧ Stp w w' := by
  have h0 := Stp.refl w
  obtain ⟨z, hz⟩ : ∃ z : L, z512 = z := ⟨_, rfl⟩
  obtain ⟨f1, f2⟩ := run_zeros hz
  have hzl : z.length = 512 := by rw [← hz]; decide +kernel
  obtain ⟨X, hX⟩ : ∃ x, phS 5 = x := ⟨_, rfl⟩
  have hXs : SmallS X := by rw [← hX]; constructor <;> first | exact zeroN_small | (simp [phS])
  have hXm : mayS X = true := by rw [← hX]; exact phS_may (.inr rfl)
  have g5 : (X.phase == 5) = true := by rw [← hX]; rfl
  rw [hX] at f1 f2
  have F1 := Lib.hid f1
  have F2 := Lib.hid f2
  have Hzl := Lib.hid hzl
  have HXs := Lib.hid hXs
  have HXm := Lib.hid hXm
  have Hz := Lib.hid hz
  have HI := Lib.hid I
  have Hb3 := Lib.hid (show ∀ b ∈ [z, z, z], b.length < 9223372036854775808 by intro b hb; simp only [List.mem_cons, List.not_mem_nil, or_false, or_self] at hb; rw [hb, hzl]; omega)
  have Hl3 := Lib.hid (show [z, z, z].length = 3 from rfl)
  have Hl0 := Lib.hid (show ([] : List Evt).length = 0 from rfl)
  clear hz f1 f2 hzl hX hXs hXm I
  go_enter Try.func10, Try.ntmps10
  go_wp2_with (first
    | (at_make; refine wpList_make_blk _ rfl _ _ 24 rfl 5 (.int .u8 0) 1 Try.underlying24 Block.byte_info rfl .i64 .i64 512 512 rfl rfl rfl (by omega) (by unfold maxLen; omega) ?_; intro w1 hb1 hs1 hg1; have Hrd := Lib.hid (made_rd Hz.out hb1); replace h0 := Lib.hid (Entry.made_stp hg1); clear hb1 hs1 hg1)
    | (go_at_call 14; (with_reducible refine (HI.out.run zeroS _ zero_sv zeroS_small [z, z, z] 3 Hl3.out (by omega) Hb3.out X [] 0 2 0 F1.out Hl0.out _ _ _ (lit_three Hrd.out Hzl.out)).mono ?_); rintro e w2 ⟨B2, d2, rfl, he, hs⟩; have He := Lib.hid he; replace Hrd := Lib.hid ((Hrd.out.keep (Stp.alloc (Stp.refl _) _)).keep hs); replace h0 := Lib.hid (Stp.trans (Stp.alloc h0.out _) hs); clear he hs)
    | (go_at_call 15; (with_reducible refine (HI.out.step X _ rfl HXs.out z 512 Hzl.out (by omega) X [] 0 17 F2.out Hl0.out _ _ _ (Hrd.out.keep (Stp.alloc (Stp.refl _) _))).mono ?_); rintro e w3 ⟨B3, d3, rfl, -, hs⟩; have Hb := Lib.hid ((Blk.new w2 32 (scells X)).keep hs (Blk.new w2 32 (scells X)).lt); replace He := Lib.hid ((He.out.keep (Stp.alloc (Stp.refl _) _)).keep hs); replace h0 := Lib.hid (Stp.trans (Stp.alloc h0.out _) hs); clear hs; obtain ⟨q0, q1, q2, q3, q4, q5, q6, q7, q8, q9, q10, q11, q12, q13⟩ := st_cells (Hb.out.alloc (.cells (scells X) 32)))
    | (go_at_call 30; (with_reducible refine (HI.out.may X _ rfl HXs.out _).mono ?_); rintro e w4 ⟨rfl, hs⟩; rw [HXm.out]; replace He := Lib.hid ((He.out.keep (Stp.alloc (Stp.refl _) _)).keep hs); replace h0 := Lib.hid (Stp.trans (Stp.alloc h0.out _) hs); clear hs q0 q1 q2 q3 q4 q5 q6 q7 q8 q9 q10 q11 q12 q13)
    | (go_at_call 31; (with_reducible refine (HI.out.same [] [] 0 0 Hl0.out Hl0.out (by omega) (by omega) _ _ _ _ _ He.out (RdE.nil _)).mono ?_); rintro e w5 ⟨rfl, hs⟩; replace h0 := Lib.hid (Stp.trans h0.out hs); clear hs))
  all_goals go_ret
  all_goals exact ⟨rfl, h0.out⟩
end Go.Proofs.Ytgjdbbhfgfodlaa.Parse
