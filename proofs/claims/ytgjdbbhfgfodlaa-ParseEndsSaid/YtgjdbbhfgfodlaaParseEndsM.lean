/-
  A node's blocks, and two more behind, as a parser takes them: plain; and what is kept in a region that draws its order: no statement is proved here.
-/
import Derived.Test.YtgjdbbhfgfodlaaParseI
import Derived.Test.YtgjdbbhfgfodlaaBlockK
namespace Go.Proofs.Ytgjdbbhfgfodlaa.Ends
open Go.Proofs.Ytgjdbbhfgfodlaa.Node Go.Proofs.Ytgjdbbhfgfodlaa.Parse Go.Proofs.Ytgjdbbhfgfodlaa.Entry
open Go.Proofs.Ytgjdbbhfgfodlaa.Tree (oneB)
open Go.Proofs.Ytgjdbbhfgfodlaa.BlockM (noughts zeroV noughts_length zeroV_iff)

theorem run_put (n : Nd) (l : List (List UInt8)) : ∃ y, runS zeroS (putE n ++ l) = ((runS zeroS l).1, y, (putE n).length + (runS zeroS l).2.2.1, (runS zeroS l).2.2.2) := by
  cases h : oneB n
  · rw [putE_no h]
    exact ⟨_, by simp; rfl⟩
  · exact ⟨_, run_node h l⟩
theorem code_zz : Head.codeB (noughts 512) = 4 := by
  unfold Head.codeB
  rw [if_pos (noughts_length 512), if_pos]
  rfl
theorem zz_zero : zeroV (noughts 512) = true := by rw [zeroV_iff, noughts_length]
theorem step_1 : stepS zeroS (noughts 512) = (phS 4, [], 0) := by
  unfold stepS headS
  rw [if_neg (by rw [zeroS_may]; simp [noughts_length]), if_neg (by decide), if_neg (by decide), if_neg (by decide), if_neg (by decide), if_pos code_zz, if_pos ⟨rfl, rfl⟩]
theorem step_4 {b : List UInt8} (hb : b.length = 512) : stepS (phS 4) b = if zeroV b = true then (phS 5, [], 0) else (phS 4, [], 2) := by
  unfold stepS
  rw [if_neg (by rw [phS_may (.inl rfl)]; simp [hb]), if_neg (by decide), if_pos (show (phS 4).phase = 4 from rfl)]
theorem step_5 {b : List UInt8} (hb : b.length = 512) : stepS (phS 5) b = (phS 5, [], 17) := by
  unfold stepS
  rw [if_neg (by rw [phS_may (.inr rfl)]; simp [hb]), if_pos (show (phS 5).phase = 5 from rfl)]
theorem run_two {b : List UInt8} (hb : b.length = 512) : runS zeroS [noughts 512, b] = if zeroV b = true then (phS 5, [], 2, 0) else (phS 4, [], 1, 2) := by
  rw [run_on _ (by rw [step_1]) (by rw [step_1]; decide), step_1]
  simp only
  have h4 := step_4 hb
  cases hz : zeroV b
  · rw [hz] at h4
    simp only [Bool.false_eq_true, if_false] at h4 ⊢
    rw [run_bad _ (by rw [h4]; decide), h4]
    rfl
  · rw [hz] at h4
    simp only [if_true] at h4 ⊢
    rw [run_end _ (by rw [h4]) (by rw [h4]; rfl), h4]
    rfl
theorem put_small (n : Nd) : (putE n).length ≤ 20 := by
  cases h : oneB n
  · rw [putE_no h]; simp
  · have h8 : BlockM.manyN n.data.length ≤ 8 := BlockM.manyN_small (by have := (oneF h).data; omega)
    rw [putE_length h, ahead_length h]
    split <;> split <;> omega
theorem phS_small : SmallS (phS 5) := by
  constructor <;> first | exact zeroN_small | (simp [phS])
/-- The three facts. -/
theorem ends_facts (n : Nd) (b : List UInt8) (hb : b.length = 512) : (∃ y, runS zeroS (putE n ++ [noughts 512, noughts 512]) = (phS 5, y, (putE n).length + 2, 0)) ∧
    (∃ y, runS zeroS (putE n ++ [noughts 512, b]) = if zeroV b = true then (phS 5, y, (putE n).length + 2, 0) else (phS 4, y, (putE n).length + 1, 2)) ∧ stepS (phS 5) b = (phS 5, [], 17) := by
  refine ⟨?_, ?_, step_5 hb⟩
  · obtain ⟨y, hy⟩ := run_put n [noughts 512, noughts 512]
    refine ⟨y, ?_⟩
    rw [hy, run_two (noughts_length 512), if_pos zz_zero]
  · obtain ⟨y, hy⟩ := run_put n [noughts 512, b]
    refine ⟨y, ?_⟩
    rw [hy, run_two hb]
    cases zeroV b <;> rfl
end Go.Proofs.Ytgjdbbhfgfodlaa.Ends

namespace Go.Proofs.Ytgjdbbhfgfodlaa.Ends
open Go.RowKit Go.Proofs.Ytgjdbbhfgfodlaa.Str Go.Proofs.Ytgjdbbhfgfodlaa.Base Go.Proofs.Ytgjdbbhfgfodlaa.Node Go.Proofs.Ytgjdbbhfgfodlaa.Parse

/-- A row of the region's own. -/
def Ro (wx W : World) (v : Value) (ls : List (List UInt8)) : Prop := ∃ lo, wx.heap.size ≤ lo ∧ lo ≤ W.heap.size ∧ Base.Rows W lo 24 v ls
theorem Ro.keep {wx W W' : World} {v : Value} {ls : List (List UInt8)} (h : Ro wx W v ls) (hs : Stp W W') : Ro wx W' v ls := by
  obtain ⟨lo, h1, h3, h2⟩ := h
  exact ⟨lo, h1, Nat.le_trans h3 hs.size, h2.keep hs⟩
theorem Ro.lt {wx W : World} {v : Value} {ls : List (List UInt8)} (h : Ro wx W v ls) : ∀ k, v.ownBlock = some k → k < W.heap.size := by
  obtain ⟨lo, -, -, us, h1, -⟩ := h
  exact fun k hk => (h1.lt k hk).2
/-- The own block of a row that is made later is another one. -/
theorem Ro.new {W : World} {v : Value} {ls : List (List UInt8)} {g : Nat} (h : Base.Rows W g 24 v ls) {k : Nat} (hk : k < g) : v.ownBlock ≠ some k := fun e => by
  obtain ⟨us, h1, -⟩ := h
  have := (h1.lt k e).1
  omega
theorem rdL_lt {W : World} {g c : Nat} {x : List UInt8} (h : RdL W (some ⟨g, 0, none⟩) c [x]) : g < W.heap.size := by
  obtain ⟨b, o, A1, c1, e, hc, -⟩ := h.at_ (j := 0) rfl
  cases e
  exact World.block_lt_of_cell? W _ hc
theorem lit_past {wx W W' : World} {v : Value} {ls : List (List UInt8)} {g : Nat} {x : List UInt8} (h : Ro wx W v ls) (hl : RdL W (some ⟨g, 0, none⟩) 1 [x]) (hne : v.ownBlock ≠ some g) (hg : W.grownBy W' v.ownBlock) : RdL W' (some ⟨g, 0, none⟩) 1 [x] := by
  obtain ⟨lo, -, -, us, h1, h2, -⟩ := h
  have hlt := rdL_lt hl
  obtain ⟨vs, k1, k2, k3⟩ := hl
  refine ⟨vs, k1, ?_, fun j l hj => ?_⟩
  · obtain ⟨A', cap, e1, e2, e3⟩ := k2
    refine ⟨A', cap, e1, e2, fun hn => ?_⟩
    obtain ⟨b, o, rfl, hb, hu⟩ := e3 hn
    simp only [Value.slice.injEq, Option.some.injEq, Addr.mk.injEq, and_true] at e1
    obtain ⟨⟨rfl, rfl⟩, -, -⟩ := e1
    exact ⟨g, 0, rfl, Nat.lt_of_lt_of_le hlt hg.size, fun j u hj => (World.cell?_of_block (a := ⟨g, 0 + j, none⟩) (hg.block g hlt (fun e => hne e.symm))).trans (hu j u hj)⟩
  · obtain ⟨u, hu, hr⟩ := k3 j l hj
    exact ⟨u, hu, (hr.past h2 hg (Nat.le_refl _)).more hg.size⟩
theorem blk_past {wx W W' : World} {v : Value} {ls : List (List UInt8)} {g : Nat} {t : TypeId} {cs : Array Value} (h : Ro wx W v ls) (hb : Blk W g t cs) (ht : t ≠ 24) (hg : W.grownBy W' v.ownBlock) : Blk W' g t cs := by
  obtain ⟨lo, -, -, us, h1, -⟩ := h
  refine hb.grown hg ?_
  rcases h1 with ⟨rfl, -⟩ | ⟨g', cap, cur, fz, rfl, -, hg', -⟩
  · simp [Value.ownBlock]
  · simp only [Value.ownBlock]
    rintro e
    cases e
    unfold Blk at hb
    rw [hg'] at hb
    cases hb
    exact ht rfl
theorem Ro.stp {wx W W' : World} {v : Value} {ls : List (List UInt8)} (h : Ro wx W v ls) (h0 : Stp wx W) (hg : W.grownBy W' v.ownBlock) : Stp wx W' := by
  obtain ⟨lo, h1, -, h2⟩ := h
  exact h2.stp h0 h1 hg
theorem lit_1 {w5 : World} {A : Option Addr} {c : Nat} {r : List UInt8} (h : RdA w5 A c (bs r)) (hr : r.length = 512) : RdL (w5.alloc (.cells #[.slice A 512 c] 24)) (some ⟨w5.heap.size, 0, none⟩) 1 [r] := by
  obtain ⟨A2, c2, e, hL⟩ := (Base.Rows.one (e := 24) h hr).rdL
  cases e
  exact hL
theorem blk_zz {W : World} {g : Nat} (h : Blk W g 5 (Array.replicate 512 (.int .u8 0))) : RdA W (some ⟨g, 0, none⟩) 512 (bs (BlockM.noughts 512)) := by
  have e : ∀ k, (Array.replicate k (Value.int .u8 0)) = (bs (BlockM.noughts k)).toArray := fun k => by simp [BlockM.noughts, bs]
  rw [e] at h
  have h2 := (Base.Own.of_blk (lo := 0) h (Nat.zero_le _) (n := 512) (by simp [bs_length, BlockM.noughts_length]) (by unfold maxLen; omega)).rd
  unfold RdA
  rw [bs_length, BlockM.noughts_length]
  exact h2
end Go.Proofs.Ytgjdbbhfgfodlaa.Ends
