/-
  What the walks of package parse's laws ask of its code, the chapter's example, and has a state few bytes: no statement is proved here.
-/
import Derived.Test.YtgjdbbhfgfodlaaGreatParseM
import Derived.Test.YtgjdbbhfgfodlaaGreatEvs
import Derived.Test.YtgjdbbhfgfodlaaGreatLongTx
import Derived.Test.YtgjdbbhfgfodlaaGreatBlockK
import Derived.Test.YtgjdbbhfgfodlaaGreatEntryI
namespace Go.Proofs.YtgjdbbhfgfodlaaGreat.Parse
open Go.RowKit Go.Proofs.YtgjdbbhfgfodlaaGreat.Str Go.Proofs.YtgjdbbhfgfodlaaGreat.Base Go.Proofs.YtgjdbbhfgfodlaaGreat.Node Go.Proofs.YtgjdbbhfgfodlaaGreat.Long
open Go.Proofs.YtgjdbbhfgfodlaaGreat.Tree (oneB)

/-- The contract of the document's Run. -/
def RunR : Prop := ∀ (s : St) (v : Value), v = sv s → SmallS s → ∀ (l : List L) (n : Nat), l.length = n → n ≤ 1000 → (∀ b ∈ l, b.length < 9223372036854775808) → ∀ (t : St) (y : List Evt) (k m : Nat) (e0 : Int), runS s l = (t, y, m, e0) → y.length = k → ∀ (A : Option Addr) (c : Nat) (w : World), RdL w A c l →
    Calls Tryz.prog 20 #[v, .slice A n c] w fun e w' => ∃ B d, e = .returned (.tuple #[sv t, .slice B k d, .int .i64 (m : Int), .int .i64 e0]) ∧ RdE w' B d y ∧ Stp w w'
/-- Run's contract. -/
def RunI : Prop := ∀ (s : St) (v : Value), v = sv s → SmallS s → ∀ (l : List L) (n : Nat), l.length = n → n ≤ 1000 → (∀ b ∈ l, b.length < 9223372036854775808) → ∀ (t : St) (y : List Evt) (k m : Nat) (e0 : Int), runS s l = (t, y, m, e0) → y.length = k → ∀ (A : Option Addr) (c : Nat) (w : World), RdL w A c l →
    Calls Tryz.prog 19 #[v, .slice A n c] w fun e w' => ∃ B d, e = .returned (.tuple #[sv t, .slice B k d, .int .i64 (m : Int), .int .i64 e0]) ∧ RdE w' B d y ∧ Stp w w'
/-- A state that lies in a block. -/
theorem st_cells {w : World} {g : Nat} {t : TypeId} {s : St} (hb : Blk w g t (scells s)) :
    w.cell? ⟨g, 0, none⟩ = some (.int .i64 s.phase) ∧ w.cell? ⟨g, 1, none⟩ = some (.string ⟨s.node.path.toArray⟩) ∧ w.cell? ⟨g, 2, none⟩ = some (.string ⟨s.node.link.toArray⟩) ∧ w.cell? ⟨g, 3, none⟩ = some (.int .u8 (s.node.kind.toNat : Int)) ∧ w.cell? ⟨g, 4, none⟩ = some (.int .i64 s.node.mode) ∧
    w.cell? ⟨g, 5, none⟩ = some (.int .i64 s.node.uid) ∧ w.cell? ⟨g, 6, none⟩ = some (.int .i64 s.node.gid) ∧ w.cell? ⟨g, 7, none⟩ = some (.int .i64 s.node.time) ∧ w.cell? ⟨g, 8, none⟩ = some (.string ⟨s.node.data.toArray⟩) ∧ w.cell? ⟨g, 9, none⟩ = some (.int .i64 s.size) ∧ w.cell? ⟨g, 10, none⟩ = some (.int .i64 s.left) ∧
    w.cell? ⟨g, 11, none⟩ = some (.string ⟨s.text.toArray⟩) ∧ w.cell? ⟨g, 12, none⟩ = some (.string ⟨s.name.toArray⟩) ∧ w.cell? ⟨g, 13, none⟩ = some (.string ⟨s.link.toArray⟩) := by
  refine ⟨?_, ?_, ?_, ?_, ?_, ?_, ?_, ?_, ?_, ?_, ?_, ?_, ?_, ?_⟩ <;> (rw [hb.cell]; rfl)

/-- Has a state few bytes? -/
def fewS (s : St) : Bool := fewN s.node && (decide (s.text.length ≤ 400) && (decide (s.name.length ≤ 400) && decide (s.link.length ≤ 400)))
/-! ### the chapter's example -/
abbrev z512 : L := List.replicate 512 0
theorem run_zeros {z : L} (hz : z512 = z) : runS zeroS [z, z, z] = (phS 5, [], 2, 0) ∧ stepS (phS 5) z = (phS 5, [], 17) := by
  have hl : z.length = 512 := by rw [← hz]; decide +kernel
  have hv : BlockM.zeroV z = true := by rw [← hz]; decide +kernel
  have hc : Head.codeB z = 4 := by
    unfold Head.codeB
    rw [if_pos hl, if_pos (by rw [← hz]; rfl)]
  have e1 : stepS zeroS z = (phS 4, [], 0) := by
    unfold stepS headS
    rw [if_neg (by rw [zeroS_may]; simp [hl]), if_neg (by decide), if_neg (by decide), if_neg (by decide), if_neg (by decide), if_pos hc, if_pos ⟨rfl, rfl⟩]
  have e2 : stepS (phS 4) z = (phS 5, [], 0) := by
    unfold stepS
    rw [if_neg (by rw [phS_may (.inl rfl)]; simp [hl]), if_neg (by decide), if_pos (show (phS 4).phase = 4 from rfl), if_pos hv]
  have e3 : stepS (phS 5) z = (phS 5, [], 17) := by
    unfold stepS
    rw [if_neg (by rw [phS_may (.inr rfl)]; simp [hl]), if_pos (show (phS 5).phase = 5 from rfl)]
  refine ⟨?_, e3⟩
  rw [run_on _ (by rw [e1]) (by rw [e1]; decide), e1]
  simp only
  rw [run_end _ (by rw [e2]) (by rw [e2]; rfl), e2]
  rfl
theorem lit_three {w : World} {A : Option Addr} {c n : Nat} {z : L} {e : TypeId} (h : RdA w A c (bs z)) (hn : z.length = n) :
    RdL (w.alloc (.cells #[.slice A n c, .slice A n c, .slice A n c] e)) (some ⟨w.heap.size, 0, none⟩) 3 [z, z, z] := by
  subst hn
  have hk := h.keep (Stp.alloc (Stp.refl w) (.cells #[.slice A z.length c, .slice A z.length c, .slice A z.length c] e))
  unfold RdA at hk
  rw [bs_length] at hk
  have ho := (Base.Own.of_blk (lo := 0) (Blk.new w e #[.slice A z.length c, .slice A z.length c, .slice A z.length c]) (Nat.zero_le _) (n := 3) rfl (by unfold maxLen; omega)).rd
  refine ⟨[.slice A z.length c, .slice A z.length c, .slice A z.length c], rfl, ho, fun j l hj => ?_⟩
  match j, hj with
  | 0, hj => simp only [List.getElem?_cons_zero, Option.some.injEq] at hj; subst hj; exact ⟨_, rfl, hk⟩
  | 1, hj => simp only [List.getElem?_cons_succ, List.getElem?_cons_zero, Option.some.injEq] at hj; subst hj; exact ⟨_, rfl, hk⟩
  | 2, hj => simp only [List.getElem?_cons_succ, List.getElem?_cons_zero, Option.some.injEq] at hj; subst hj; exact ⟨_, rfl, hk⟩
  | j + 3, hj => simp at hj
theorem made_rd {w1 : World} {g : Nat} {z : L} (hz : z512 = z) (hb : Blk w1 g 5 (Array.replicate 512 (.int .u8 0))) : RdA w1 (some ⟨g, 0, none⟩) 512 (bs z) := by
  subst hz
  rw [← Entry.bs_noughts] at hb
  have h := (Base.Own.of_blk (lo := 0) hb (Nat.zero_le _) (n := 512) (by rw [List.size_toArray, bs_length, List.length_replicate]) (by unfold maxLen; omega)).rd
  rw [List.toList_toArray] at h
  unfold RdA
  rw [bs_length, List.length_replicate]
  exact h

theorem zero_sv : Value.agg #[.int .i64 0, .string ⟨#[]⟩, .string ⟨#[]⟩, .int .u8 0, .int .i64 0, .int .i64 0, .int .i64 0, .int .i64 0, .string ⟨#[]⟩, .int .i64 0, .int .i64 0, .string ⟨#[]⟩, .string ⟨#[]⟩, .string ⟨#[]⟩] = sv zeroS := rfl
end Go.Proofs.YtgjdbbhfgfodlaaGreat.Parse
