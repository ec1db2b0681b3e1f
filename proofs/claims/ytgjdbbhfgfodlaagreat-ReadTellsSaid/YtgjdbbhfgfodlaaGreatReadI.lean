/-
  What the walks of package read's laws ask of its code, and the chapter's example: no statement is proved here.
-/
import Derived.Test.YtgjdbbhfgfodlaaGreatReadM
import Derived.Test.YtgjdbbhfgfodlaaGreatParseI
import Derived.Test.YtgjdbbhfgfodlaaGreatTreeOne
namespace Go.Proofs.YtgjdbbhfgfodlaaGreat.Read
open Go.RowKit Go.Proofs.YtgjdbbhfgfodlaaGreat.Str Go.Proofs.YtgjdbbhfgfodlaaGreat.Base Go.Proofs.YtgjdbbhfgfodlaaGreat.Node
open Go.Proofs.YtgjdbbhfgfodlaaGreat.Parse (Evt RdE zeroS phS runS stepS)

/-- The contracts of the four calls. -/
structure ReadI : Prop where
  gather : ∀ (l : List Evt) (n : Nat), l.length = n → n ≤ 2999 → (∀ x ∈ l, BytesE x) → ∀ (ns : List Nd) (ok : Bool) (m : Nat), gatherV l = (ns, ok) → ns.length = m → ∀ (A : Option Addr) (c : Nat) (w : World), RdE w A c l →
    Calls Tryz.prog 7 #[.slice A n c] w fun e w' => ∃ B d, e = .returned (.tuple #[.slice B m d, .bool ok]) ∧ RdN w' B d ns ∧ Stp w w'
  part : ∀ (l : List L) (n : Nat), l.length = n → n ≤ 1000 → (∀ b ∈ l, b.length < 9223372036854775808) → ∀ (ns : List Nd) (e0 : Int) (m : Nat), partV l = (ns, e0) → ns.length = m → ∀ (A : Option Addr) (c : Nat) (w : World), RdL w A c l →
    Calls Tryz.prog 9 #[.slice A n c] w fun e w' => ∃ B d, e = .returned (.tuple #[.slice B m d, .int .i64 e0]) ∧ RdN w' B d ns ∧ Stp w w'
  read : ∀ (l : List L) (n : Nat), l.length = n → n ≤ 1000 → (∀ b ∈ l, b.length < 9223372036854775808) → ∀ (ns : List Nd) (e0 : Int) (m : Nat), readV l = (ns, e0) → ns.length = m → ∀ (A : Option Addr) (c : Nat) (w : World), RdL w A c l →
    Calls Tryz.prog 11 #[.slice A n c] w fun e w' => ∃ B d, e = .returned (.tuple #[.slice B m d, .int .i64 e0]) ∧ RdN w' B d ns ∧ Stp w w'
  used : ∀ (l : List L) (n : Nat), l.length = n → n ≤ 1000 → (∀ b ∈ l, b.length < 9223372036854775808) → ∀ m : Nat, usedV l = m → ∀ (A : Option Addr) (c : Nat) (w : World), RdL w A c l →
    Calls Tryz.prog 14 #[.slice A n c] w fun e w' => e = .returned (.int .i64 (m : Int)) ∧ Stp w w'

/-! ### the chapter's example -/
abbrev z512 : L := List.replicate 512 0
def nodeX : Nd := { zeroN with data := [97] }
abbrev evsX : List Evt := [⟨0, zeroN, []⟩, ⟨1, zeroN, [97]⟩, ⟨2, zeroN, []⟩]
theorem gather_ex : gatherV evsX = ([nodeX], true) := rfl
theorem run_ex {z : L} (hz : z512 = z) : runS zeroS [z, z] = (phS 5, [], 2, 0) ∧ runS zeroS [z] = (phS 4, [], 1, 0) ∧ runS zeroS [z, z, z] = (phS 5, [], 2, 0) := by
  have hl : z.length = 512 := by rw [← hz]; decide +kernel
  have hv : BlockM.zeroV z = true := by rw [← hz]; decide +kernel
  have hc : Head.codeB z = 4 := by
    unfold Head.codeB
    rw [if_pos hl, if_pos (by rw [← hz]; rfl)]
  have e1 : stepS zeroS z = (phS 4, [], 0) := by
    unfold stepS Parse.headS
    rw [if_neg (by rw [Parse.zeroS_may]; simp [hl]), if_neg (by decide), if_neg (by decide), if_neg (by decide), if_neg (by decide), if_pos hc, if_pos ⟨rfl, rfl⟩]
  have e2 : stepS (phS 4) z = (phS 5, [], 0) := by
    unfold stepS
    rw [if_neg (by rw [Parse.phS_may (.inl rfl)]; simp [hl]), if_neg (by decide), if_pos (show (phS 4).phase = 4 from rfl), if_pos hv]
  have e3 : ∀ l, runS zeroS (z :: z :: l) = (phS 5, [], 2, 0) := by
    intro l
    rw [Parse.run_on _ (by rw [e1]) (by rw [e1]; decide), e1]
    simp only
    rw [Parse.run_end _ (by rw [e2]) (by rw [e2]; rfl), e2]
    rfl
  refine ⟨e3 [], ?_, e3 [z]⟩
  rw [Parse.run_on _ (by rw [e1]) (by rw [e1]; decide), e1, Parse.run_nil]
  rfl
theorem lit2_rd {w : World} {A : Option Addr} {c n : Nat} {z : L} {e : TypeId} (h : RdA w A c (bs z)) (hn : z.length = n) :
    RdL (w.alloc (.cells #[.slice A n c, .slice A n c] e)) (some ⟨w.heap.size, 0, none⟩) 2 [z, z] := by
  subst hn
  have hk := h.keep (Stp.alloc (Stp.refl w) (.cells #[.slice A z.length c, .slice A z.length c] e))
  unfold RdA at hk
  rw [bs_length] at hk
  have ho := (Base.Own.of_blk (lo := 0) (Blk.new w e #[.slice A z.length c, .slice A z.length c]) (Nat.zero_le _) (n := 2) rfl (by unfold maxLen; omega)).rd
  refine ⟨[.slice A z.length c, .slice A z.length c], rfl, ho, fun j l hj => ?_⟩
  match j, hj with
  | 0, hj => simp only [List.getElem?_cons_zero, Option.some.injEq] at hj; subst hj; exact ⟨_, rfl, hk⟩
  | 1, hj => simp only [List.getElem?_cons_succ, List.getElem?_cons_zero, Option.some.injEq] at hj; subst hj; exact ⟨_, rfl, hk⟩
  | j + 2, hj => simp at hj
theorem lit1_rd {w : World} {A : Option Addr} {c n : Nat} {z : L} {e : TypeId} (h : RdA w A c (bs z)) (hn : z.length = n) :
    RdL (w.alloc (.cells #[.slice A n c] e)) (some ⟨w.heap.size, 0, none⟩) 1 [z] := by
  subst hn
  have hk := h.keep (Stp.alloc (Stp.refl w) (.cells #[.slice A z.length c] e))
  unfold RdA at hk
  rw [bs_length] at hk
  have ho := (Base.Own.of_blk (lo := 0) (Blk.new w e #[.slice A z.length c]) (Nat.zero_le _) (n := 1) rfl (by unfold maxLen; omega)).rd
  refine ⟨[.slice A z.length c], rfl, ho, fun j l hj => ?_⟩
  match j, hj with
  | 0, hj => simp only [List.getElem?_cons_zero, Option.some.injEq] at hj; subst hj; exact ⟨_, rfl, hk⟩
  | j + 1, hj => simp at hj
abbrev cellsX : Array Value := #[.int .i64 0, .string ⟨#[]⟩, .string ⟨#[]⟩, .int .u8 0, .int .i64 0, .int .i64 0, .int .i64 0, .int .i64 0, .string ⟨#[]⟩, .string ⟨#[]⟩, .int .i64 1, .string ⟨#[]⟩, .string ⟨#[]⟩, .int .u8 0, .int .i64 0, .int .i64 0, .int .i64 0, .int .i64 0, .string ⟨#[]⟩, .string ⟨#[97]⟩, .int .i64 2, .string ⟨#[]⟩, .string ⟨#[]⟩, .int .u8 0, .int .i64 0, .int .i64 0, .int .i64 0, .int .i64 0, .string ⟨#[]⟩, .string ⟨#[]⟩]
theorem cellsX_is : cellsX.toList = Parse.etc evsX := rfl
theorem lit_evs {w : World} {g : Nat} (hb : Blk w g 40 cellsX) : RdE w (some ⟨g, 0, none⟩) 3 evsX := by
  refine ⟨by simp, fun _ => ⟨g, 0, rfl, hb.lt, fun q u hq => ?_⟩⟩
  rw [Nat.zero_add, hb.cell, ← Array.getElem?_toList, cellsX_is]
  exact hq

set_option maxRecDepth 100000 in
set_option maxHeartbeats 4000000 in
theorem awake_s (I : ReadI) (w : World) : Calls Tryz.prog 4 #[] w fun e w' => e = .returned (.bool true) ∧ Stp w w' := by
  have h0 := Lib.hid (Stp.refl w)
  obtain ⟨z, hz⟩ : ∃ z : L, z512 = z := ⟨_, rfl⟩
  obtain ⟨f1, f2, f3⟩ := run_ex hz
  have hzl : z.length = 512 := by rw [← hz]; decide +kernel
  have R1 := Lib.hid (show readV [z, z] = ([], 0) by unfold readV; rw [f1]; rfl)
  have R2 := Lib.hid (show readV [z] = ([], 7) by unfold readV; rw [f2]; rfl)
  have P1 := Lib.hid (show partV [z] = ([], 0) by unfold partV; rw [f2]; rfl)
  have U1 := Lib.hid (show usedV [z, z, z] = 2 by unfold usedV; rw [f3])
  have Hzl := Lib.hid hzl
  have Hz := Lib.hid hz
  have HI := Lib.hid I
  have HB := Lib.hid (show ∀ l : List L, (∀ b ∈ l, b = z) → ∀ b ∈ l, b.length < 9223372036854775808 by intro l hl b hb; rw [hl b hb, hzl]; omega)
  have HX := Lib.hid (show ∀ x ∈ evsX, BytesE x by intro x hx; simp only [List.mem_cons, List.not_mem_nil, or_false] at hx; rcases hx with rfl | rfl | rfl <;> exact ⟨by decide, by decide⟩)
  clear hz f1 f2 f3 hzl I
  go_enter Tryz.func4, Tryz.ntmps4
  go_wp2_with (first
    | (at_make; refine wpList_make_blk _ rfl _ _ 36 rfl 5 (.int .u8 0) 1 Tryz.underlying36 Block.byte_info rfl .i64 .i64 512 512 rfl rfl rfl (by omega) (by unfold maxLen; omega) ?_; intro w1 hb1 hs1 hg1; have Hrd := Lib.hid (Parse.made_rd Hz.out hb1); replace h0 := Lib.hid (Entry.made_stp hg1); clear hb1 hs1 hg1)
    | (go_at_call 11; (with_reducible refine (HI.out.read [z, z] 2 rfl (by omega) (HB.out _ (by simp)) [] 0 0 R1.out rfl _ _ _ (lit2_rd Hrd.out Hzl.out)).mono ?_); rintro e w2 ⟨B2, d2, rfl, -, hs⟩; replace Hrd := Lib.hid ((Hrd.out.keep (Stp.alloc (Stp.refl _) _)).keep hs); replace h0 := Lib.hid (Stp.trans (Stp.alloc h0.out _) hs); clear hs)
    | (go_at_call 11; (with_reducible refine (HI.out.read [z] 1 rfl (by omega) (HB.out _ (by simp)) [] 7 0 R2.out rfl _ _ _ (lit1_rd Hrd.out Hzl.out)).mono ?_); rintro e w3 ⟨B3, d3, rfl, -, hs⟩; replace Hrd := Lib.hid ((Hrd.out.keep (Stp.alloc (Stp.refl _) _)).keep hs); replace h0 := Lib.hid (Stp.trans (Stp.alloc h0.out _) hs); clear hs)
    | (go_at_call 7; go_loud ((with_reducible refine (HI.out.gather evsX 3 rfl (by omega) HX.out [nodeX] true 1 gather_ex rfl _ _ _ (lit_evs (Blk.new w3 40 cellsX))).mono ?_); rintro e w4 ⟨B4, d4, rfl, hr, hs⟩; have Hg := Lib.hid hr; replace Hrd := Lib.hid ((Hrd.out.keep (Stp.alloc (Stp.refl _) _)).keep hs); replace h0 := Lib.hid (Stp.trans (Stp.alloc h0.out _) hs); clear hs hr))
    | (go_at_call 9; (with_reducible refine (HI.out.part [z] 1 rfl (by omega) (HB.out _ (by simp)) [] 0 0 P1.out rfl _ _ _ (lit1_rd Hrd.out Hzl.out)).mono ?_); rintro e w5 ⟨B5, d5, rfl, -, hs⟩; replace Hg := Lib.hid ((Hg.out.keep (Stp.alloc (Stp.refl _) _)).keep hs); replace Hrd := Lib.hid ((Hrd.out.keep (Stp.alloc (Stp.refl _) _)).keep hs); replace h0 := Lib.hid (Stp.trans (Stp.alloc h0.out _) hs); clear hs; obtain ⟨bn, on, rfl, -, n0, n1, n2, n3, n4, n5, n6, n7⟩ := Hg.out.cells (j := 0) rfl; have hd4 := Hg.out.1)
    | (go_at_call 14; (with_reducible refine (HI.out.used [z, z, z] 3 rfl (by omega) (HB.out _ (by simp)) 2 U1.out _ _ _ (Parse.lit_three Hrd.out Hzl.out)).mono ?_); rintro e w6 ⟨rfl, hs⟩; replace h0 := Lib.hid (Stp.trans (Stp.alloc h0.out _) hs); clear hs))
  all_goals go_ret
  all_goals exact ⟨rfl, h0.out⟩

/-! ### what the laws share -/
theorem rsame_n (ns ms : List Nd) (m n : Nat) (hm : ns.length = m) (hn : ms.length = n) (A B : Option Addr) (c d : Nat) (w : World) (ha : RdN w A c ns) (hb : RdN w B d ms) (hl : n < 9223372036854775808) (b : Bool) (hs : (ns == ms) = b) :
    Calls Tryz.prog 13 #[.slice A m c, .slice B n d] w fun e w' => e = .returned (.bool b) ∧ Stp w w' := by
  subst hm hn hs
  exact Tree.rsame_s ns ms A B c d w ha hb hl
theorem part_len (l : List L) : (partV l).1.length ≤ 2 * l.length := by
  have h1 := (Parse.run_facts l Parse.zeroS).len
  have h2 := (Parse.run_facts l Parse.zeroS).n
  have h3 : ∀ (y : List Parse.Evt) (ds : List Nd) (c : Option Nd), (outG (goG ds c y).1 (goG ds c y).2.1).length ≤ ds.length + c.toList.length + y.length := by
    intro y
    induction y with
    | nil => intro ds c; rw [go_nil]; simp [outG]
    | cons x y ih =>
      intro ds c
      cases c with
      | none =>
        simp only [goG]
        split
        · have := ih ds (some x.node)
          simp at this ⊢
          omega
        · simp [outG]
      | some n =>
        simp only [goG]
        split
        · have := ih ds (some (moreN n x.data))
          simp at this ⊢
          omega
        split
        · have := ih (ds ++ [n]) none
          simp at this ⊢
          omega
        · simp [outG]
  have := h3 (Parse.runS Parse.zeroS l).2.1 [] none
  unfold partV gatherV
  simp only [List.length_nil, Option.toList_none] at this
  dsimp only
  omega
theorem read_len (l : List L) : (readV l).1.length ≤ 2 * l.length := by
  have h := read_part l
  by_cases e : (readV l).2 = 0
  · rw [(h.1 e).2]
    exact part_len l
  · rw [h.2.1 e]
    simp

end Go.Proofs.YtgjdbbhfgfodlaaGreat.Read
