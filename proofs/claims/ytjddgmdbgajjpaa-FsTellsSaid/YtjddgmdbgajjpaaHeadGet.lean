/-
  The contract of package head's guess: no statement is proved here.
  The contract of package head's Get: no statement is proved here.
-/
import Derived.Test.YtjddgmdbgajjpaaHeadPut3
import Derived.Deep.RegionHeld3
namespace Go.Proofs.Ytjddgmdbgajjpaa.Head
open Go.RowKit Go.Proofs.Ytjddgmdbgajjpaa.Base Go.Proofs.Ytjddgmdbgajjpaa.NumM Go.Proofs.Ytjddgmdbgajjpaa.Num

theorem rd_sub {w : World} {b o c : Nat} {l : L} {i n : Nat} (h : RdA w (some ⟨b, o, none⟩) c (bs l)) (hn : i + n ≤ l.length) : Rd w w.heap.size (.slice (some ⟨b, o + i, none⟩) n (c - i)) (bs (sub l i n)) := by
  have hc := h.length_le
  rw [bs_length] at hc
  obtain ⟨A, cap, h1, h2, h3⟩ := h
  simp only [Value.slice.injEq, true_and] at h1
  obtain ⟨rfl, rfl⟩ := h1
  have hl : (bs (sub l i n)).length = n := by rw [bs_length, sub_length hn]
  refine ⟨_, c - i, by rw [hl], by rw [hl]; omega, fun hne => ?_⟩
  obtain ⟨b', o', e, hb, hu⟩ := h3 (by rintro e; have : (bs l).length = 0 := by rw [e]; rfl
                                       rw [bs_length] at this; exact hne (List.eq_nil_of_length_eq_zero (by rw [hl]; omega)))
  simp only [Option.some.injEq, Addr.mk.injEq, and_true] at e
  obtain ⟨rfl, rfl⟩ := e
  refine ⟨b, o + i, rfl, hb, fun j u hj => ?_⟩
  rw [Nat.add_assoc]
  refine hu (i + j) u ?_
  have hj2 : j < n := by have := (List.getElem?_eq_some_iff.1 hj).1; rwa [hl] at this
  unfold sub bs at hj
  rw [List.map_take, List.getElem?_take, if_pos hj2, List.map_drop, List.getElem?_drop] at hj
  exact hj

/-- The header while its texts are read, and while its numbers are. -/
def gT (b : L) (t : UInt8) (k : Nat) : Hd := { zeroH with ty := t, name := if 0 < k then upto (sub b 0 100) else [], link := if 1 < k then upto (sub b 157 100) else [], pre := if 2 < k then upto (sub b 345 155) else [] }
def gN (b : L) (t : UInt8) (k : Nat) : Hd :=
  { name := upto (sub b 0 100), pre := if t = 77 then [] else upto (sub b 345 155), link := upto (sub b 157 100), ty := t,
    mode := if 0 < k then getV (sub b 100 8) else 0, uid := if 1 < k then getV (sub b 108 8) else 0, gid := if 2 < k then getV (sub b 116 8) else 0, size := if 3 < k then getV (sub b 124 12) else 0, time := if 4 < k then getV (sub b 136 12) else 0,
    off := if 5 < k then getV (sub b 369 12) else 0, real := if 6 < k then getV (sub b 483 12) else 0 }
theorem txR_gT (b : L) (t : UInt8) (k : Nat) : txR (gT b t k) = if t = 77 then txM else txN := rfl
theorem gT_step (b : L) (t : UInt8) (k : Nat) (hk : k < (if t = 77 then txM else txN).length) : ∃ (at_ most f : Nat), (if t = 77 then txM else txN)[k]? = some ((at_ : Int), (most : Int), f) ∧ at_ + most ≤ 512 ∧ 0 < most ∧ f < 11 ∧
    (hcells (gT b t k)).setIfInBounds f (.string ⟨(upto (sub b at_ most)).toArray⟩) = hcells (gT b t (k + 1)) := by
  by_cases hm : t = 77
  · rw [if_pos hm] at hk ⊢
    match k, hk with
    | 0, _ => exact ⟨0, 100, 0, rfl, by omega, by omega, by omega, rfl⟩
    | 1, _ => exact ⟨157, 100, 2, rfl, by omega, by omega, by omega, rfl⟩
    | k + 2, hk => simp [txM] at hk; omega
  · rw [if_neg hm] at hk ⊢
    match k, hk with
    | 0, _ => exact ⟨0, 100, 0, rfl, by omega, by omega, by omega, rfl⟩
    | 1, _ => exact ⟨157, 100, 2, rfl, by omega, by omega, by omega, rfl⟩
    | 2, _ => exact ⟨345, 155, 1, rfl, by omega, by omega, by omega, rfl⟩
    | k + 3, hk => simp [txN] at hk; omega
theorem gT_end (b : L) (t : UInt8) : gT b t (if t = 77 then txM else txN).length = gN b t 0 := by
  by_cases hm : t = 77
  · rw [if_pos hm]; subst hm; rfl
  · rw [if_neg hm]
    unfold gT gN
    rw [if_neg hm]
    rfl
theorem gN_step (b : L) (t : UInt8) (k : Nat) (hk : k < (if t = 77 then nuM else nuN).length) : ∃ (at_ wd f : Nat), (if t = 77 then nuM else nuN)[k]? = some ((at_ : Int), (wd : Int), f) ∧ at_ + wd ≤ 512 ∧ 0 < wd ∧ wd ≤ 20 ∧ f < 11 ∧
    (hcells (gN b t k)).setIfInBounds f (.int .i64 (getV (sub b at_ wd))) = hcells (gN b t (k + 1)) := by
  by_cases hm : t = 77
  · rw [if_pos hm] at hk ⊢
    match k, hk with
    | 0, _ => exact ⟨100, 8, 3, rfl, by omega, by omega, by omega, by omega, rfl⟩
    | 1, _ => exact ⟨108, 8, 4, rfl, by omega, by omega, by omega, by omega, rfl⟩
    | 2, _ => exact ⟨116, 8, 5, rfl, by omega, by omega, by omega, by omega, rfl⟩
    | 3, _ => exact ⟨124, 12, 6, rfl, by omega, by omega, by omega, by omega, rfl⟩
    | 4, _ => exact ⟨136, 12, 7, rfl, by omega, by omega, by omega, by omega, rfl⟩
    | 5, _ => exact ⟨369, 12, 9, rfl, by omega, by omega, by omega, by omega, rfl⟩
    | 6, _ => exact ⟨483, 12, 10, rfl, by omega, by omega, by omega, by omega, rfl⟩
    | k + 7, hk => simp [nuM] at hk; omega
  · rw [if_neg hm] at hk ⊢
    match k, hk with
    | 0, _ => exact ⟨100, 8, 3, rfl, by omega, by omega, by omega, by omega, rfl⟩
    | 1, _ => exact ⟨108, 8, 4, rfl, by omega, by omega, by omega, by omega, rfl⟩
    | 2, _ => exact ⟨116, 8, 5, rfl, by omega, by omega, by omega, by omega, rfl⟩
    | 3, _ => exact ⟨124, 12, 6, rfl, by omega, by omega, by omega, by omega, rfl⟩
    | 4, _ => exact ⟨136, 12, 7, rfl, by omega, by omega, by omega, by omega, rfl⟩
    | k + 5, hk => simp [nuN] at hk; omega
theorem gN_end (b : L) (t : UInt8) (ht : (sub b 156 1).headD 0 = t) : gN b t (if t = 77 then nuM else nuN).length = guessH b := by
  unfold guessH gN
  rw [ht]
  by_cases hm : t = 77
  · simp [hm, nuM]
  · simp [hm, nuN]
theorem sub_head {b : L} (t : UInt8) (ht : b[156]? = some t) : (sub b 156 1).headD 0 = t := by
  unfold sub
  rw [List.headD_eq_head?_getD, List.head?_take]
  simp [List.head?_drop, ht]

theorem wrap64_of (x : Int) (h0 : 0 ≤ x) (h1 : x < 9223372036854775808) : IntKind.i64.wrap x = x := by
  rw [IntKind.wrap_i64]
  omega
theorem blk_at {w : World} {g : Nat} {t : TypeId} {cs : Array Value} (h : Blk w g t cs) {i : Nat} (hi : i < cs.size) : w.cell? ⟨g, i, none⟩ = some cs[i] := by rw [h.cell, Array.getElem?_eq_getElem hi]

theorem RdC.far {w : World} {g : Nat} {l : List Value} (h : RdC w g l) {p : Addr} (hp : g ≠ p.block) (v : Value) : RdC (w.setCell p v) g l := by
  refine ⟨by simpa [World.setCell] using h.1, fun j u hj => ?_⟩
  rw [World.cell?_setCell_other (h := by rintro rfl; exact hp rfl)]
  exact h.2 j u hj
theorem hd_cells {w : World} {g : Nat} {t : TypeId} {h : Hd} (hb : Blk w g t (hcells h)) :
    w.cell? ⟨g, 0, none⟩ = some (.string ⟨h.name.toArray⟩) ∧ w.cell? ⟨g, 1, none⟩ = some (.string ⟨h.pre.toArray⟩) ∧ w.cell? ⟨g, 2, none⟩ = some (.string ⟨h.link.toArray⟩) ∧ w.cell? ⟨g, 3, none⟩ = some (.int .i64 h.mode) ∧ w.cell? ⟨g, 4, none⟩ = some (.int .i64 h.uid) ∧ w.cell? ⟨g, 5, none⟩ = some (.int .i64 h.gid) ∧
    w.cell? ⟨g, 6, none⟩ = some (.int .i64 h.size) ∧ w.cell? ⟨g, 7, none⟩ = some (.int .i64 h.time) ∧ w.cell? ⟨g, 8, none⟩ = some (.int .u8 (h.ty.toNat : Int)) ∧ w.cell? ⟨g, 9, none⟩ = some (.int .i64 h.off) ∧ w.cell? ⟨g, 10, none⟩ = some (.int .i64 h.real) := by
  refine ⟨?_, ?_, ?_, ?_, ?_, ?_, ?_, ?_, ?_, ?_, ?_⟩ <;> (rw [hb.cell]; rfl)
/-- A header's cells, stored one behind another. -/
abbrev fillW (w : World) (g : Nat) (h : Hd) : World := ((((((((((w.setCell ⟨g, 0, none⟩ (.string ⟨h.name.toArray⟩)).setCell ⟨g, 1, none⟩ (.string ⟨h.pre.toArray⟩)).setCell ⟨g, 2, none⟩ (.string ⟨h.link.toArray⟩)).setCell ⟨g, 3, none⟩ (.int .i64 h.mode)).setCell ⟨g, 4, none⟩ (.int .i64 h.uid)).setCell ⟨g, 5, none⟩ (.int .i64 h.gid)).setCell ⟨g, 6, none⟩ (.int .i64 h.size)).setCell ⟨g, 7, none⟩ (.int .i64 h.time)).setCell ⟨g, 8, none⟩ (.int .u8 (h.ty.toNat : Int))).setCell ⟨g, 9, none⟩ (.int .i64 h.off)).setCell ⟨g, 10, none⟩ (.int .i64 h.real)
theorem fill_gen {w : World} {g : Nat} {t : TypeId} {c0 c1 c2 c3 c4 c5 c6 c7 c8 c9 c10 : Value} (a0 a1 a2 a3 a4 a5 a6 a7 a8 a9 a10 : Value) (hb : Blk w g t #[c0, c1, c2, c3, c4, c5, c6, c7, c8, c9, c10]) :
    Blk (((((((((((w.setCell ⟨g, 0, none⟩ a0).setCell ⟨g, 1, none⟩ a1).setCell ⟨g, 2, none⟩ a2).setCell ⟨g, 3, none⟩ a3).setCell ⟨g, 4, none⟩ a4).setCell ⟨g, 5, none⟩ a5).setCell ⟨g, 6, none⟩ a6).setCell ⟨g, 7, none⟩ a7).setCell ⟨g, 8, none⟩ a8).setCell ⟨g, 9, none⟩ a9).setCell ⟨g, 10, none⟩ a10) g t #[a0, a1, a2, a3, a4, a5, a6, a7, a8, a9, a10] := by
  have h0 := hb.put 0 a0
  rw [show (#[c0, c1, c2, c3, c4, c5, c6, c7, c8, c9, c10] : Array Value).setIfInBounds 0 a0 = #[a0, c1, c2, c3, c4, c5, c6, c7, c8, c9, c10] from rfl] at h0
  have h1 := h0.put 1 a1
  rw [show (#[a0, c1, c2, c3, c4, c5, c6, c7, c8, c9, c10] : Array Value).setIfInBounds 1 a1 = #[a0, a1, c2, c3, c4, c5, c6, c7, c8, c9, c10] from rfl] at h1
  have h2 := h1.put 2 a2
  rw [show (#[a0, a1, c2, c3, c4, c5, c6, c7, c8, c9, c10] : Array Value).setIfInBounds 2 a2 = #[a0, a1, a2, c3, c4, c5, c6, c7, c8, c9, c10] from rfl] at h2
  have h3 := h2.put 3 a3
  rw [show (#[a0, a1, a2, c3, c4, c5, c6, c7, c8, c9, c10] : Array Value).setIfInBounds 3 a3 = #[a0, a1, a2, a3, c4, c5, c6, c7, c8, c9, c10] from rfl] at h3
  have h4 := h3.put 4 a4
  rw [show (#[a0, a1, a2, a3, c4, c5, c6, c7, c8, c9, c10] : Array Value).setIfInBounds 4 a4 = #[a0, a1, a2, a3, a4, c5, c6, c7, c8, c9, c10] from rfl] at h4
  have h5 := h4.put 5 a5
  rw [show (#[a0, a1, a2, a3, a4, c5, c6, c7, c8, c9, c10] : Array Value).setIfInBounds 5 a5 = #[a0, a1, a2, a3, a4, a5, c6, c7, c8, c9, c10] from rfl] at h5
  have h6 := h5.put 6 a6
  rw [show (#[a0, a1, a2, a3, a4, a5, c6, c7, c8, c9, c10] : Array Value).setIfInBounds 6 a6 = #[a0, a1, a2, a3, a4, a5, a6, c7, c8, c9, c10] from rfl] at h6
  have h7 := h6.put 7 a7
  rw [show (#[a0, a1, a2, a3, a4, a5, a6, c7, c8, c9, c10] : Array Value).setIfInBounds 7 a7 = #[a0, a1, a2, a3, a4, a5, a6, a7, c8, c9, c10] from rfl] at h7
  have h8 := h7.put 8 a8
  rw [show (#[a0, a1, a2, a3, a4, a5, a6, a7, c8, c9, c10] : Array Value).setIfInBounds 8 a8 = #[a0, a1, a2, a3, a4, a5, a6, a7, a8, c9, c10] from rfl] at h8
  have h9 := h8.put 9 a9
  rw [show (#[a0, a1, a2, a3, a4, a5, a6, a7, a8, c9, c10] : Array Value).setIfInBounds 9 a9 = #[a0, a1, a2, a3, a4, a5, a6, a7, a8, a9, c10] from rfl] at h9
  have h10 := h9.put 10 a10
  rw [show (#[a0, a1, a2, a3, a4, a5, a6, a7, a8, a9, c10] : Array Value).setIfInBounds 10 a10 = #[a0, a1, a2, a3, a4, a5, a6, a7, a8, a9, a10] from rfl] at h10
  exact h10
theorem fill_blk {w : World} {g : Nat} {t : TypeId} {z : Hd} (h : Hd) (hb : Blk w g t (hcells z)) : Blk (fillW w g h) g t (hcells h) := fill_gen _ _ _ _ _ _ _ _ _ _ _ hb
theorem set_stp {w w1 : World} {g : Nat} (hs : Stp w w1) (hg : w.heap.size ≤ g) (k : Nat) (v : Value) : Stp w (w1.setCell ⟨g, k, none⟩ v) := Below.setCell hs (p := ⟨g, k, none⟩) hg v
theorem fill_stp {w w1 : World} {g : Nat} (h : Hd) (hs : Stp w w1) (hg : w.heap.size ≤ g) : Stp w (fillW w1 g h) := by
  have h0 := set_stp hs hg 0 (.string ⟨h.name.toArray⟩)
  have h1 := set_stp h0 hg 1 (.string ⟨h.pre.toArray⟩)
  have h2 := set_stp h1 hg 2 (.string ⟨h.link.toArray⟩)
  have h3 := set_stp h2 hg 3 (.int .i64 h.mode)
  have h4 := set_stp h3 hg 4 (.int .i64 h.uid)
  have h5 := set_stp h4 hg 5 (.int .i64 h.gid)
  have h6 := set_stp h5 hg 6 (.int .i64 h.size)
  have h7 := set_stp h6 hg 7 (.int .i64 h.time)
  have h8 := set_stp h7 hg 8 (.int .u8 (h.ty.toNat : Int))
  have h9 := set_stp h8 hg 9 (.int .i64 h.off)
  have h10 := set_stp h9 hg 10 (.int .i64 h.real)
  exact h10
/-- What a cell holds. -/
def cellAt (w : World) (a : Addr) : Value := (w.cell? a).getD undef
theorem cellAt_of {w : World} {a : Addr} {u : Value} (h : w.cell? a = some u) : w.cell? a = some (cellAt w a) := by unfold cellAt; rw [h]; rfl
/-- A cell that can be stored into. -/
theorem open_blk {w : World} {g f : Nat} {t : TypeId} {cs : Array Value} (h : Blk w g t cs) (hf : f < cs.size) : w.cell? ⟨g, f, none⟩ = some (cellAt w ⟨g, f, none⟩) ∧ w.frozen? ⟨g, f, none⟩ = false :=
  ⟨cellAt_of (blk_at h hf), h.free f⟩

end Go.Proofs.Ytjddgmdbgajjpaa.Head

namespace Go.Proofs.Ytjddgmdbgajjpaa.Head
open Go.RowKit Go.Proofs.Ytjddgmdbgajjpaa.Base Go.Proofs.Ytjddgmdbgajjpaa.NumM Go.Proofs.Ytjddgmdbgajjpaa.Num

/-- The cells of a header that is zero, and that they can be stored into. -/
theorem zy {w : World} {g : Nat} {t : TypeId} (hb : Blk w g t (hcells zeroH)) :
    ((w.cell? ⟨g, 0, none⟩ = some (.string ⟨#[]⟩) ∧ w.cell? ⟨g, 1, none⟩ = some (.string ⟨#[]⟩) ∧ w.cell? ⟨g, 2, none⟩ = some (.string ⟨#[]⟩) ∧ w.cell? ⟨g, 3, none⟩ = some (.int .i64 0) ∧ w.cell? ⟨g, 4, none⟩ = some (.int .i64 0) ∧ w.cell? ⟨g, 5, none⟩ = some (.int .i64 0) ∧
    w.cell? ⟨g, 6, none⟩ = some (.int .i64 0) ∧ w.cell? ⟨g, 7, none⟩ = some (.int .i64 0) ∧ w.cell? ⟨g, 8, none⟩ = some (.int .u8 0) ∧ w.cell? ⟨g, 9, none⟩ = some (.int .i64 0) ∧ w.cell? ⟨g, 10, none⟩ = some (.int .i64 0)) ∧
    (w.frozen? ⟨g, 0, none⟩ = false ∧ w.frozen? ⟨g, 1, none⟩ = false ∧ w.frozen? ⟨g, 2, none⟩ = false ∧ w.frozen? ⟨g, 3, none⟩ = false ∧ w.frozen? ⟨g, 4, none⟩ = false ∧ w.frozen? ⟨g, 5, none⟩ = false ∧ w.frozen? ⟨g, 6, none⟩ = false ∧ w.frozen? ⟨g, 7, none⟩ = false ∧ w.frozen? ⟨g, 8, none⟩ = false ∧ w.frozen? ⟨g, 9, none⟩ = false ∧ w.frozen? ⟨g, 10, none⟩ = false)) := by
  refine ⟨⟨?_, ?_, ?_, ?_, ?_, ?_, ?_, ?_, ?_, ?_, ?_⟩, ⟨hb.free 0, hb.free 1, hb.free 2, hb.free 3, hb.free 4, hb.free 5, hb.free 6, hb.free 7, hb.free 8, hb.free 9, hb.free 10⟩⟩ <;> (rw [hb.cell]; rfl)

theorem small_guess {l : L} (h : l.length = 512) : SmallH (guessH l) := by
  have hu : ∀ x : L, (upto x).length ≤ x.length := fun x => by
    have := congrArg List.length (upto_take x)
    rw [List.length_take] at this
    omega
  have h1 := hu (sub l 0 100)
  have h2 := hu (sub l 157 100)
  have h3 := hu (sub l 345 155)
  rw [sub_length (by omega)] at h1 h2 h3
  constructor <;> unfold guessH <;> simp only
  · omega
  · split
    · simp
    · omega
  · omega
  · exact (getV_range _).2
  · exact (getV_range _).2
  · exact (getV_range _).2
  · exact (getV_range _).2
  · exact (getV_range _).2
  · split
    · exact (getV_range _).2
    · omega
  · split
    · exact (getV_range _).2
    · omega
theorem blk_length {h : Hd} (hm : mayH h = true) (hs : SmallH h) : (blk h).length = 512 := by
  have h1 : (layAll (zeros 512) (txts h)).length = 512 := by rw [layAll_length (by rw [zeros_length]; exact ps_room hm), zeros_length]
  have h2 : (layAll (layAll (zeros 512) (txts h)) (numsL h)).length = 512 := by rw [layAll_length (by rw [h1]; exact nu_room hm hs), h1]
  have h3 : (rawH h).length = 512 := by
    unfold rawH
    rw [layAll_append, layAll_append]
    show (lay (lay _ 156 [h.ty]) 257 magic).length = 512
    rw [lay_length (by rw [lay_length (by rw [h2]; simp), h2]; decide), lay_length (by rw [h2]; simp), h2]
  unfold blk
  rw [lay_length (by rw [sumT_length, h3]; omega), h3]
theorem putB_eq {l : L} {h : Hd} (hl : l.length = 512) : (putB h == l) = decide (mayH h = true ∧ blk h = l) := by
  unfold putB
  by_cases hm : mayH h = true
  · rw [if_pos hm, Bool.eq_iff_iff, beq_iff_eq, decide_eq_true_eq]
    exact ⟨fun e => ⟨hm, e⟩, fun e => e.2⟩
  · rw [if_neg hm, Bool.eq_iff_iff, beq_iff_eq, decide_eq_true_eq]
    exact ⟨fun e => by rw [← e] at hl; simp at hl, fun e => absurd e.1 hm⟩
end Go.Proofs.Ytjddgmdbgajjpaa.Head

