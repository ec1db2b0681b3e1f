/-
  The contract of package head's guess: no statement is proved here.
  The contract of package head's Get: no statement is proved here.
-/
import Derived.Test.YtllnnlmhbmladaaGreatDoorHeadPut3
import Derived.Deep.RegionHeld3
namespace Go.Proofs.YtllnnlmhbmladaaGreatDoor.Head
open Go.RowKit Go.Proofs.YtllnnlmhbmladaaGreatDoor.Base Go.Proofs.YtllnnlmhbmladaaGreatDoor.NumM Go.Proofs.YtllnnlmhbmladaaGreatDoor.Num

theorem rd_sub {w : World} {b o c : Nat} {l : L} {i n : Nat} (h : RdA w (some ⟨b, o, none⟩) c (bs l)) (hn : i + n ≤ l.length) : Rd w w.heap.size (.slice (some ⟨b, o + i, none⟩) n (c - i)) (bs (sub l i n)) := by
  have hc := h.length_le
  rw [bs_length] at hc
  obtain ⟨A, cap, h1, h2, h3⟩ := h
  simp only [Value.slice.injEq, true_and] at h1
  obtain ⟨rfl, rfl⟩ := h1
  have hl : (bs (sub l i n)).length = n := by rw [bs_length, sub_length hn]
  refine ⟨_, c - i, by rw [hl], by rw [hl]; omega, fun hne => ?_⟩
  obtain ⟨b', o', e, hb, hu⟩ := h3 (by rintro e; have : (bs l).length = 0 := by rw [e]; rfl
                                       rw [bs_length] at this; exact hne (List.eq_nil_of_length_eq_zero (by rw [hl]; omega)))
  simp only [Option.some.injEq, Addr.mk.injEq, and_true] at e
  obtain ⟨rfl, rfl⟩ := e
  refine ⟨b, o + i, rfl, hb, fun j u hj => ?_⟩
  rw [Nat.add_assoc]
  refine hu (i + j) u ?_
  have hj2 : j < n := by have := (List.getElem?_eq_some_iff.1 hj).1; rwa [hl] at this
  unfold sub bs at hj
  rw [List.map_take, List.getElem?_take, if_pos hj2, List.map_drop, List.getElem?_drop] at hj
  exact hj

/-- The header while its texts are read, and while its numbers are. -/
def gT (b : L) (t : UInt8) (k : Nat) : Hd := { zeroH with ty := t, name := if 0 < k then upto (sub b 0 100) else [], link := if 1 < k then upto (sub b 157 100) else [], pre := if 2 < k then upto (sub b 345 155) else [] }
def gN (b : L) (t : UInt8) (k : Nat) : Hd :=
  { name := upto (sub b 0 100), pre := if t = 77 then [] else upto (sub b 345 155), link := upto (sub b 157 100), ty := t,
    mode := if 0 < k then getV (sub b 100 8) else 0, uid := if 1 < k then getV (sub b 108 8) else 0, gid := if 2 < k then getV (sub b 116 8) else 0, size := if 3 < k then getV (sub b 124 12) else 0, time := if 4 < k then getV (sub b 136 12) else 0,
    off := if 5 < k then getV (sub b 369 12) else 0, real := if 6 < k then getV (sub b 483 12) else 0 }
theorem txR_gT (b : L) (t : UInt8) (k : Nat) : txR (gT b t k) = if t = 77 then txM else txN := rfl
theorem gT_step (b : L) (t : UInt8) (k : Nat) (hk : k < (if t = 77 then txM else txN).length) : ∃ (at_ most f : Nat), (if t = 77 then txM else txN)[k]? = some ((at_ : Int), (most : Int), f) ∧ at_ + most ≤ 512 ∧ 0 < most ∧ f < 11 ∧
    (hcells (gT b t k)).setIfInBounds f (.string ⟨(upto (sub b at_ most)).toArray⟩) = hcells (gT b t (k + 1)) := by
  by_cases hm : t = 77
  · rw [if_pos hm] at hk ⊢
    match k, hk with
    | 0, _ => exact ⟨0, 100, 0, rfl, by omega, by omega, by omega, rfl⟩
    | 1, _ => exact ⟨157, 100, 2, rfl, by omega, by omega, by omega, rfl⟩
    | k + 2, hk => simp [txM] at hk; omega
  · rw [if_neg hm] at hk ⊢
    match k, hk with
    | 0, _ => exact ⟨0, 100, 0, rfl, by omega, by omega, by omega, rfl⟩
    | 1, _ => exact ⟨157, 100, 2, rfl, by omega, by omega, by omega, rfl⟩
    | 2, _ => exact ⟨345, 155, 1, rfl, by omega, by omega, by omega, rfl⟩
    | k + 3, hk => simp [txN] at hk; omega
theorem gT_end (b : L) (t : UInt8) : gT b t (if t = 77 then txM else txN).length = gN b t 0 := by
  by_cases hm : t = 77
  · rw [if_pos hm]; subst hm; rfl
  · rw [if_neg hm]
    unfold gT gN
    rw [if_neg hm]
    rfl
theorem gN_step (b : L) (t : UInt8) (k : Nat) (hk : k < (if t = 77 then nuM else nuN).length) : ∃ (at_ wd f : Nat), (if t = 77 then nuM else nuN)[k]? = some ((at_ : Int), (wd : Int), f) ∧ at_ + wd ≤ 512 ∧ 0 < wd ∧ wd ≤ 20 ∧ f < 11 ∧
    (hcells (gN b t k)).setIfInBounds f (.int .i64 (getV (sub b at_ wd))) = hcells (gN b t (k + 1)) := by
  by_cases hm : t = 77
  · rw [if_pos hm] at hk ⊢
    match k, hk with
    | 0, _ => exact ⟨100, 8, 3, rfl, by omega, by omega, by omega, by omega, rfl⟩
    | 1, _ => exact ⟨108, 8, 4, rfl, by omega, by omega, by omega, by omega, rfl⟩
    | 2, _ => exact ⟨116, 8, 5, rfl, by omega, by omega, by omega, by omega, rfl⟩
    | 3, _ => exact ⟨124, 12, 6, rfl, by omega, by omega, by omega, by omega, rfl⟩
    | 4, _ => exact ⟨136, 12, 7, rfl, by omega, by omega, by omega, by omega, rfl⟩
    | 5, _ => exact ⟨369, 12, 9, rfl, by omega, by omega, by omega, by omega, rfl⟩
    | 6, _ => exact ⟨483, 12, 10, rfl, by omega, by omega, by omega, by omega, rfl⟩
    | k + 7, hk => simp [nuM] at hk; omega
  · rw [if_neg hm] at hk ⊢
    match k, hk with
    | 0, _ => exact ⟨100, 8, 3, rfl, by omega, by omega, by omega, by omega, rfl⟩
    | 1, _ => exact ⟨108, 8, 4, rfl, by omega, by omega, by omega, by omega, rfl⟩
    | 2, _ => exact ⟨116, 8, 5, rfl, by omega, by omega, by omega, by omega, rfl⟩
    | 3, _ => exact ⟨124, 12, 6, rfl, by omega, by omega, by omega, by omega, rfl⟩
    | 4, _ => exact ⟨136, 12, 7, rfl, by omega, by omega, by omega, by omega, rfl⟩
    | k + 5, hk => simp [nuN] at hk; omega
theorem gN_end (b : L) (t : UInt8) (ht : (sub b 156 1).headD 0 = t) : gN b t (if t = 77 then nuM else nuN).length = guessH b := by
  unfold guessH gN
  rw [ht]
  by_cases hm : t = 77
  · simp [hm, nuM]
  · simp [hm, nuN]
theorem sub_head {b : L} (t : UInt8) (ht : b[156]? = some t) : (sub b 156 1).headD 0 = t := by
  unfold sub
  rw [List.headD_eq_head?_getD, List.head?_take]
  simp [List.head?_drop, ht]

theorem get_s (l : L) (v : Value) (w : World) (hv : Rd w w.heap.size v (bs l)) (hbig : l.length < 9223372036854775808) :
    Calls Tryz.prog 91 #[v] w fun e w' => e = .returned (.tuple #[.int .i64 (getV l), .bool (okN l)]) ∧ Stp w w' :=
  (get_all l v _ w hv (Nat.le_refl _) hbig).mono fun e _ h => ⟨getIs_getV l e h.1, h.2⟩
theorem slice_lh (b o n c : Nat) (i m : Nat) (hi : i + m ≤ c) (hm : 0 < m) (w : World) : (Instr.slice 46 (.slice (some ⟨b, o, none⟩) n c) (some (.int .i64 (i : Int))) (some (.int .i64 ((i : Int) + (m : Int)))) none).run Tryz.prog w = .ok (.slice (some ⟨b, o + i, none⟩) m (c - i)) w := by
  have he : Tryz.prog.elem 46 = 5 := by kernel_rfl
  have hs : (sizeOf 5).run Tryz.prog w = .ok 1 w := by
    have hi : (Tryz.prog.info? 5).map (·.size) = some 1 := by kernel_rfl
    cases hq : Tryz.prog.info? 5 with
    | none => simp [hq] at hi
    | some i =>
      have : i.size = 1 := by simpa [hq] using hi
      simp [sizeOf, typeInfo, hq, this]
  rw [run_slice_lh (P := Tryz.prog) w 46 _ _ _ (by rw [he]; exact Tryz.underlying46) .i64 .i64 _ _ (by omega) (by omega) (by omega), he, hs]
  simp only [Result.andThen_ok, sliced]
  rw [if_neg (by omega)]
  simp only [Option.map_some, Addr.add_lit, Int.toNat_natCast, Nat.mul_one]
  rw [show ((i : Int) + (m : Int)).toNat - i = m by omega]

theorem sliceAt_lh (b o n c : Nat) (i m : Nat) (hi : i + m ≤ c) (hm : 0 < m) (w : World) : (Instr.sliceAt 46 (.slice (some ⟨b, o, none⟩) n c) (some (.int .i64 (i : Int))) (some (.int .i64 ((i : Int) + (m : Int)))) none).run Tryz.prog w = .ok (.slice (some ⟨b, o + i, none⟩) m (c - i)) w := by
  have he : Tryz.prog.elem 46 = 5 := by kernel_rfl
  rw [run_sliceAt_slice (P := Tryz.prog) w _ _ _ _ _ (by rw [he]; exact Tryz.underlying46)]
  exact slice_lh b o n c i m hi hm w
theorem wrap64_of (x : Int) (h0 : 0 ≤ x) (h1 : x < 9223372036854775808) : IntKind.i64.wrap x = x := by
  rw [IntKind.wrap_i64]
  omega
theorem blk_at {w : World} {g : Nat} {t : TypeId} {cs : Array Value} (h : Blk w g t cs) {i : Nat} (hi : i < cs.size) : w.cell? ⟨g, i, none⟩ = some cs[i] := by rw [h.cell, Array.getElem?_eq_getElem hi]

theorem RdC.far {w : World} {g : Nat} {l : List Value} (h : RdC w g l) {p : Addr} (hp : g ≠ p.block) (v : Value) : RdC (w.setCell p v) g l := by
  refine ⟨by simpa [World.setCell] using h.1, fun j u hj => ?_⟩
  rw [World.cell?_setCell_other (h := by rintro rfl; exact hp rfl)]
  exact h.2 j u hj
theorem hd_cells {w : World} {g : Nat} {t : TypeId} {h : Hd} (hb : Blk w g t (hcells h)) :
    w.cell? ⟨g, 0, none⟩ = some (.string ⟨h.name.toArray⟩) ∧ w.cell? ⟨g, 1, none⟩ = some (.string ⟨h.pre.toArray⟩) ∧ w.cell? ⟨g, 2, none⟩ = some (.string ⟨h.link.toArray⟩) ∧ w.cell? ⟨g, 3, none⟩ = some (.int .i64 h.mode) ∧ w.cell? ⟨g, 4, none⟩ = some (.int .i64 h.uid) ∧ w.cell? ⟨g, 5, none⟩ = some (.int .i64 h.gid) ∧
    w.cell? ⟨g, 6, none⟩ = some (.int .i64 h.size) ∧ w.cell? ⟨g, 7, none⟩ = some (.int .i64 h.time) ∧ w.cell? ⟨g, 8, none⟩ = some (.int .u8 (h.ty.toNat : Int)) ∧ w.cell? ⟨g, 9, none⟩ = some (.int .i64 h.off) ∧ w.cell? ⟨g, 10, none⟩ = some (.int .i64 h.real) := by
  refine ⟨?_, ?_, ?_, ?_, ?_, ?_, ?_, ?_, ?_, ?_, ?_⟩ <;> (rw [hb.cell]; rfl)
/-- A header's cells, stored one behind another. -/
abbrev fillW (w : World) (g : Nat) (h : Hd) : World := ((((((((((w.setCell ⟨g, 0, none⟩ (.string ⟨h.name.toArray⟩)).setCell ⟨g, 1, none⟩ (.string ⟨h.pre.toArray⟩)).setCell ⟨g, 2, none⟩ (.string ⟨h.link.toArray⟩)).setCell ⟨g, 3, none⟩ (.int .i64 h.mode)).setCell ⟨g, 4, none⟩ (.int .i64 h.uid)).setCell ⟨g, 5, none⟩ (.int .i64 h.gid)).setCell ⟨g, 6, none⟩ (.int .i64 h.size)).setCell ⟨g, 7, none⟩ (.int .i64 h.time)).setCell ⟨g, 8, none⟩ (.int .u8 (h.ty.toNat : Int))).setCell ⟨g, 9, none⟩ (.int .i64 h.off)).setCell ⟨g, 10, none⟩ (.int .i64 h.real)
theorem fill_gen {w : World} {g : Nat} {t : TypeId} {c0 c1 c2 c3 c4 c5 c6 c7 c8 c9 c10 : Value} (a0 a1 a2 a3 a4 a5 a6 a7 a8 a9 a10 : Value) (hb : Blk w g t #[c0, c1, c2, c3, c4, c5, c6, c7, c8, c9, c10]) :
    Blk (((((((((((w.setCell ⟨g, 0, none⟩ a0).setCell ⟨g, 1, none⟩ a1).setCell ⟨g, 2, none⟩ a2).setCell ⟨g, 3, none⟩ a3).setCell ⟨g, 4, none⟩ a4).setCell ⟨g, 5, none⟩ a5).setCell ⟨g, 6, none⟩ a6).setCell ⟨g, 7, none⟩ a7).setCell ⟨g, 8, none⟩ a8).setCell ⟨g, 9, none⟩ a9).setCell ⟨g, 10, none⟩ a10) g t #[a0, a1, a2, a3, a4, a5, a6, a7, a8, a9, a10] := by
  have h0 := hb.put 0 a0
  rw [show (#[c0, c1, c2, c3, c4, c5, c6, c7, c8, c9, c10] : Array Value).setIfInBounds 0 a0 = #[a0, c1, c2, c3, c4, c5, c6, c7, c8, c9, c10] from rfl] at h0
  have h1 := h0.put 1 a1
  rw [show (#[a0, c1, c2, c3, c4, c5, c6, c7, c8, c9, c10] : Array Value).setIfInBounds 1 a1 = #[a0, a1, c2, c3, c4, c5, c6, c7, c8, c9, c10] from rfl] at h1
  have h2 := h1.put 2 a2
  rw [show (#[a0, a1, c2, c3, c4, c5, c6, c7, c8, c9, c10] : Array Value).setIfInBounds 2 a2 = #[a0, a1, a2, c3, c4, c5, c6, c7, c8, c9, c10] from rfl] at h2
  have h3 := h2.put 3 a3
  rw [show (#[a0, a1, a2, c3, c4, c5, c6, c7, c8, c9, c10] : Array Value).setIfInBounds 3 a3 = #[a0, a1, a2, a3, c4, c5, c6, c7, c8, c9, c10] from rfl] at h3
  have h4 := h3.put 4 a4
  rw [show (#[a0, a1, a2, a3, c4, c5, c6, c7, c8, c9, c10] : Array Value).setIfInBounds 4 a4 = #[a0, a1, a2, a3, a4, c5, c6, c7, c8, c9, c10] from rfl] at h4
  have h5 := h4.put 5 a5
  rw [show (#[a0, a1, a2, a3, a4, c5, c6, c7, c8, c9, c10] : Array Value).setIfInBounds 5 a5 = #[a0, a1, a2, a3, a4, a5, c6, c7, c8, c9, c10] from rfl] at h5
  have h6 := h5.put 6 a6
  rw [show (#[a0, a1, a2, a3, a4, a5, c6, c7, c8, c9, c10] : Array Value).setIfInBounds 6 a6 = #[a0, a1, a2, a3, a4, a5, a6, c7, c8, c9, c10] from rfl] at h6
  have h7 := h6.put 7 a7
  rw [show (#[a0, a1, a2, a3, a4, a5, a6, c7, c8, c9, c10] : Array Value).setIfInBounds 7 a7 = #[a0, a1, a2, a3, a4, a5, a6, a7, c8, c9, c10] from rfl] at h7
  have h8 := h7.put 8 a8
  rw [show (#[a0, a1, a2, a3, a4, a5, a6, a7, c8, c9, c10] : Array Value).setIfInBounds 8 a8 = #[a0, a1, a2, a3, a4, a5, a6, a7, a8, c9, c10] from rfl] at h8
  have h9 := h8.put 9 a9
  rw [show (#[a0, a1, a2, a3, a4, a5, a6, a7, a8, c9, c10] : Array Value).setIfInBounds 9 a9 = #[a0, a1, a2, a3, a4, a5, a6, a7, a8, a9, c10] from rfl] at h9
  have h10 := h9.put 10 a10
  rw [show (#[a0, a1, a2, a3, a4, a5, a6, a7, a8, a9, c10] : Array Value).setIfInBounds 10 a10 = #[a0, a1, a2, a3, a4, a5, a6, a7, a8, a9, a10] from rfl] at h10
  exact h10
theorem fill_blk {w : World} {g : Nat} {t : TypeId} {z : Hd} (h : Hd) (hb : Blk w g t (hcells z)) : Blk (fillW w g h) g t (hcells h) := fill_gen _ _ _ _ _ _ _ _ _ _ _ hb
theorem set_stp {w w1 : World} {g : Nat} (hs : Stp w w1) (hg : w.heap.size ≤ g) (k : Nat) (v : Value) : Stp w (w1.setCell ⟨g, k, none⟩ v) := Below.setCell hs (p := ⟨g, k, none⟩) hg v
theorem fill_stp {w w1 : World} {g : Nat} (h : Hd) (hs : Stp w w1) (hg : w.heap.size ≤ g) : Stp w (fillW w1 g h) := by
  have h0 := set_stp hs hg 0 (.string ⟨h.name.toArray⟩)
  have h1 := set_stp h0 hg 1 (.string ⟨h.pre.toArray⟩)
  have h2 := set_stp h1 hg 2 (.string ⟨h.link.toArray⟩)
  have h3 := set_stp h2 hg 3 (.int .i64 h.mode)
  have h4 := set_stp h3 hg 4 (.int .i64 h.uid)
  have h5 := set_stp h4 hg 5 (.int .i64 h.gid)
  have h6 := set_stp h5 hg 6 (.int .i64 h.size)
  have h7 := set_stp h6 hg 7 (.int .i64 h.time)
  have h8 := set_stp h7 hg 8 (.int .u8 (h.ty.toNat : Int))
  have h9 := set_stp h8 hg 9 (.int .i64 h.off)
  have h10 := set_stp h9 hg 10 (.int .i64 h.real)
  exact h10
/-- What a cell holds. -/
def cellAt (w : World) (a : Addr) : Value := (w.cell? a).getD undef
theorem cellAt_of {w : World} {a : Addr} {u : Value} (h : w.cell? a = some u) : w.cell? a = some (cellAt w a) := by unfold cellAt; rw [h]; rfl
/-- A cell that can be stored into. -/
theorem open_blk {w : World} {g f : Nat} {t : TypeId} {cs : Array Value} (h : Blk w g t cs) (hf : f < cs.size) : w.cell? ⟨g, f, none⟩ = some (cellAt w ⟨g, f, none⟩) ∧ w.frozen? ⟨g, f, none⟩ = false :=
  ⟨cellAt_of (blk_at h hf), h.free f⟩

set_option maxHeartbeats 4000000 in
set_option maxRecDepth 100000 in
theorem guess_s (l : L) (A : Option Addr) (c : Nat) (w : World) (ha : RdA w A c (bs l)) (h512 : l.length = 512) :
    Calls Tryz.prog 56 #[.slice A l.length c] w fun e w' => e = .returned (hv (guessH l)) ∧ Stp w w' := by
  have h0 := Stp.refl w
  obtain ⟨t, ht⟩ : ∃ t, l[156]? = some t := ⟨_, List.getElem?_eq_getElem (by omega)⟩
  have hsh := sub_head t ht
  obtain ⟨b, o, rfl, hcell⟩ := ha.at_ (j := 156) (by rw [bs_length]; omega)
  have c156 := hcell 156 (.int .u8 (t.toNat : Int)) (by rw [bs_at (by omega), ← (List.getElem?_eq_some_iff.1 ht).2])
  have hcl := ha.length_le
  rw [bs_length] at hcl
  have Ha := Lib.hid ha
  have H512 := Lib.hid h512
  have hend := gN_end l t hsh
  obtain ⟨H, hH⟩ : ∃ H, guessH l = H := ⟨_, rfl⟩
  rw [hH] at hend ⊢
  have Hend := Lib.hid hend
  have hbw : b < w.heap.size := World.block_lt_of_cell? w _ c156
  have hl156 : 156 < l.length := by omega
  clear hcell ht hsh ha h512 hend hH
  go_enter Tryz.func56, Tryz.ntmps56
  go_wp2_with fail
  have hB1 : Blk ((w.alloc (.cells (hcells zeroH) 77)).alloc (.cells (hcells (gT l t 0)) 77)) (w.heap.size + 1) 77 (hcells (gT l t 0)) := by
    have := Blk.new (w.alloc (.cells (hcells zeroH) 77)) 77 (hcells (gT l t 0))
    rwa [World.size_alloc] at this
  have hZ1 : Blk ((w.alloc (.cells (hcells zeroH) 77)).alloc (.cells (hcells (gT l t 0)) 77)) w.heap.size 77 (hcells zeroH) := (Blk.new w 77 (hcells zeroH)).alloc _
  obtain ⟨n, hn⟩ : ∃ n, (if t = 77 then txM else txN).length = n := ⟨_, rfl⟩
  have hn9 : n ≤ 9 := by rw [← hn]; unfold txM txN; split <;> simp
  have Hn := Lib.hid hn
  obtain ⟨m, hm⟩ : ∃ m, (if t = 77 then nuM else nuN).length = m := ⟨_, rfl⟩
  have hm9 : m ≤ 9 := by rw [← hm]; unfold nuM nuN; split <;> simp
  have Hm := Lib.hid hm
  refine (texts_any (gT l t 0) (w.heap.size + 1) _ hB1).mono ?_
  rintro e w2 ⟨g, cap, rfl, hg, hr2, hs⟩
  rw [txR_gT] at hr2 ⊢
  rw [Hn.out]
  have Hb2 := Lib.hid (hB1.keep hs hB1.lt)
  have Hz2 := Lib.hid (hZ1.keep hs hZ1.lt)
  have Hr2 := Lib.hid hr2
  have H2 := Lib.hid (Stp.trans (Stp.alloc (Stp.alloc h0 _) _) hs)
  rw [World.size_alloc, World.size_alloc] at hg
  obtain ⟨hb, hhb⟩ : ∃ x, w.heap.size + 1 = x := ⟨_, rfl⟩
  obtain ⟨gz, hgz⟩ : ∃ x, w.heap.size = x := ⟨_, rfl⟩
  rw [hhb] at Hb2 Hr2 hg ⊢
  rw [hgz] at Hz2 hbw hhb ⊢
  have hgb : gz < hb := by omega
  have hgg : hb < g := by omega
  clear hr2 hs hB1 hZ1 hn hm hg hhb
  go_wp2_with fail
  go_loopw [14] (fun i wr => ∃ k : Nat, k ≤ n ∧ i = .int .i64 (k : Int) ∧ Hid (Blk wr hb 77 (hcells (gT l t k))) ∧ Hid (Blk wr gz 77 (hcells zeroH)) ∧ Hid (RdC wr g (rowsC hb (if t = 77 then txM else txN))) ∧ Hid (Stp w wr)) (fun i _ => n - (intOf i).toNat)
  case atStart => exact ⟨0, by omega, rfl, Hb2, Hz2, Hr2, H2⟩
  case round =>
    obtain ⟨k, hk, rfl, Hb, Hz, Hr, Hw⟩ := hrel
    clear Hb2 Hz2 Hr2 H2
    by_cases hlt : k < n
    · obtain ⟨q, mo, f, e1, e2, e3, e4, e5⟩ := gT_step l t k (by rw [Hn.out]; exact hlt)
      obtain ⟨q1, q2, q3⟩ := rowsC_at hb _ k _ e1
      have c1 := Hr.out.2 _ _ q1
      have c2 := Hr.out.2 _ _ q2
      have c3 := Hr.out.2 _ _ q3
      simp only at c1 c2 c3
      have hlw := Hr.out.1
      have E5 := Lib.hid e5
      have hsl := slice_lh b o l.length c q mo (by have := H512.out; omega) e3
      have hwr : IntKind.i64.wrap ((q : Int) + (mo : Int)) = (q : Int) + (mo : Int) := wrap64_of _ (by omega) (by omega)
      have hsl2 := sliceAt_lh b o l.length c q mo (by have := H512.out; omega) e3
      clear q1 q2 q3 e1 e5
      go_wp2_with fail
      generalize hwq : wr.alloc _ = wq
      have d0 : wq.cell? ⟨wr.heap.size, 0, none⟩ = some (.int .i64 (q : Int)) := by rw [← hwq, World.cell?_alloc_new]; rfl
      have d1 : wq.cell? ⟨wr.heap.size, 1, none⟩ = some (.int .i64 (mo : Int)) := by rw [← hwq, World.cell?_alloc_new]; rfl
      have d2 : wq.cell? ⟨wr.heap.size, 2, none⟩ = some (.pointer (some ⟨hb, f, none⟩)) := by rw [← hwq, World.cell?_alloc_new]; rfl
      have Hb3 := Lib.hid (show Blk wq hb 77 (hcells (gT l t k)) by rw [← hwq]; exact Hb.out.alloc _)
      have Hz3 := Lib.hid (show Blk wq gz 77 (hcells zeroH) by rw [← hwq]; exact Hz.out.alloc _)
      have Hr3 := Lib.hid (show RdC wq g (rowsC hb (if t = 77 then txM else txN)) by rw [← hwq]; exact Hr.out.grown (World.grownBy_alloc wr _ none) (by simp))
      have Hw3 := Lib.hid (show Stp w wq by rw [← hwq]; exact Stp.alloc Hw.out _)
      have hra := rd_sub (Ha.out.keep Hw3.out) (i := q) (n := mo) (by have := H512.out; omega)
      have hcv : ∀ j, (convert 46 9 (.slice (some ⟨b, o + q, none⟩) mo (c - q))).run Tryz.prog (wq.drewN j) = .ok (.string ⟨(sub l q mo).toArray⟩) (wq.drewN j) := fun j => Num.str_of (wq.drewN j) _ _ _ hra
      obtain ⟨s, hs⟩ : ∃ s, sub l q mo = s := ⟨_, rfl⟩
      rw [hs] at hcv E5
      have hsz : s.length ≤ 9223372036854775807 := by rw [← hs, sub_length (by have := H512.out; omega)]; omega
      have Hsz := Lib.hid hsz
      clear hwq c1 c2 c3 Hb Hz Hr Hw hsz
      have hne : hb ≠ wr.heap.size := by omega
      have key : ∀ j, (wq.drewN j).cell? ⟨wr.heap.size, 0, none⟩ = some (.int .i64 (q : Int)) ∧ (wq.drewN j).cell? ⟨wr.heap.size, 1, none⟩ = some (.int .i64 (mo : Int)) ∧ (wq.drewN j).cell? ⟨wr.heap.size, 2, none⟩ = some (.pointer (some ⟨hb, f, none⟩)) ∧ ((wq.drewN j).cell? ⟨hb, f, none⟩ = some (cellAt (wq.drewN j) ⟨hb, f, none⟩) ∧ (wq.drewN j).frozen? ⟨hb, f, none⟩ = false) ∧ (convert 46 9 (.slice (some ⟨b, o + q, none⟩) mo (c - q))).run Tryz.prog (wq.drewN j) = .ok (.string ⟨s.toArray⟩) (wq.drewN j) :=
        fun j => ⟨d0, d1, d2, open_blk (show Blk (wq.drewN j) hb 77 (hcells (gT l t k)) from Hb3.out) e4, hcv j⟩
      have hst : ∀ j (v : Value), Stp w ((wq.drewN j).setCell ⟨hb, f, none⟩ v) := fun j v => Below.setCell (Stp.drewN Hw3.out j) (p := ⟨hb, f, none⟩) (by show w.heap.size ≤ hb; omega) v
      have key2 : ∀ j (v : Value), ((wq.drewN j).setCell ⟨hb, f, none⟩ v).cell? ⟨wr.heap.size, 0, none⟩ = some (.int .i64 (q : Int)) ∧ ((wq.drewN j).setCell ⟨hb, f, none⟩ v).cell? ⟨wr.heap.size, 1, none⟩ = some (.int .i64 (mo : Int)) ∧ ((wq.drewN j).setCell ⟨hb, f, none⟩ v).cell? ⟨wr.heap.size, 2, none⟩ = some (.pointer (some ⟨hb, f, none⟩)) ∧ (((wq.drewN j).setCell ⟨hb, f, none⟩ v).cell? ⟨hb, f, none⟩ = some (cellAt ((wq.drewN j).setCell ⟨hb, f, none⟩ v) ⟨hb, f, none⟩) ∧ ((wq.drewN j).setCell ⟨hb, f, none⟩ v).frozen? ⟨hb, f, none⟩ = false) ∧ (convert 46 9 (.slice (some ⟨b, o + q, none⟩) mo (c - q))).run Tryz.prog ((wq.drewN j).setCell ⟨hb, f, none⟩ v) = .ok (.string ⟨s.toArray⟩) ((wq.drewN j).setCell ⟨hb, f, none⟩ v) := fun j v => by
        refine ⟨?_, ?_, ?_, ?_, ?_⟩
        · rw [World.cell?_setCell_other (h := by simp)]; exact d0
        · rw [World.cell?_setCell_other (h := by simp)]; exact d1
        · rw [World.cell?_setCell_other (h := by simp)]; exact d2
        · exact open_blk ((show Blk (wq.drewN j) hb 77 (hcells (gT l t k)) from Hb3.out).put f v) (by rw [Array.size_setIfInBounds]; exact e4)
        · rw [← hs]; exact Num.str_of _ _ _ _ (rd_sub (Ha.out.keep (hst j v)) (i := q) (n := mo) (by have := H512.out; omega))
      have Key := Lib.hid key
      have Key2 := Lib.hid key2
      have Hst := Lib.hid hst
      clear key key2 hst hra hne hcv d0 d1 d2 hs
      go_region_held3 (fun w' => w'.cell? ⟨wr.heap.size, 0, none⟩ = some (.int .i64 (q : Int)) ∧ w'.cell? ⟨wr.heap.size, 1, none⟩ = some (.int .i64 (mo : Int)) ∧ w'.cell? ⟨wr.heap.size, 2, none⟩ = some (.pointer (some ⟨hb, f, none⟩)) ∧ (w'.cell? ⟨hb, f, none⟩ = some (cellAt w' ⟨hb, f, none⟩) ∧ w'.frozen? ⟨hb, f, none⟩ = false) ∧ (convert 46 9 (.slice (some ⟨b, o + q, none⟩) mo (c - q))).run Tryz.prog w' = .ok (.string ⟨s.toArray⟩) w')
        (first | exact Key.out 1 | exact Key.out _ | exact Key2.out _ _)
        (first | (go_at_call 89; refine (cut_any s _ Hsz.out).mono ?_; rintro e w4 ⟨x, y, rfl, nd, rfl⟩))
      go_wp2_with fail
      refine ⟨⟨k + 1, by omega, by go_num, Lib.hid ?_, Lib.hid ?_, Lib.hid ?_, Lib.hid (Hst.out _ _)⟩, by simp [intOf]; omega⟩
      · have := (show Blk (wq.drewN (1 + nd)) hb 77 (hcells (gT l t k)) from Hb3.out).put f (.string ⟨(upto s).toArray⟩)
        rwa [E5.out] at this
      · exact (show Blk (wq.drewN (1 + nd)) gz 77 (hcells zeroH) from Hz3.out).far (show gz ≠ hb by omega) _
      · exact RdC.far (show RdC (wq.drewN (1 + nd)) g (rowsC hb (if t = 77 then txM else txN)) from Hr3.out) (show g ≠ hb by omega) _
    · have hkn : k = n := by omega
      subst hkn
      have hgt := gT_end l t
      rw [Hn.out] at hgt
      have Hb2 := Lib.hid (show Blk wr hb 77 (hcells (gN l t 0)) by rw [← hgt]; exact Hb.out)
      clear hlt Hb Hr hgt
      have hB2 := Hb2.out
      go_wp2_with fail
      refine (numbers_any (gN l t 0) hb _ hB2).mono ?_
      rintro e w3 ⟨g3, cap3, rfl, hg3, hr3, hs3⟩
      rw [show nuR (gN l t 0) = if t = 77 then nuM else nuN from rfl] at hr3 ⊢
      rw [Hm.out]
      have Hb3 := Lib.hid (hB2.keep hs3 hB2.lt)
      have Hz3 := Lib.hid (Hz.out.keep hs3 Hz.out.lt)
      have Hr3 := Lib.hid hr3
      have H3 := Lib.hid (Stp.trans Hw.out hs3)
      have hg3' : hb < g3 := Nat.lt_of_lt_of_le hB2.lt hg3
      clear hB2 Hb2 Hz Hw hr3 hs3 hg3 Hn hk hgg
      go_wp2_with fail
      go_loopw [39] (fun i wr => ∃ k : Nat, k ≤ m ∧ i = .int .i64 (k : Int) ∧ Hid (Blk wr hb 77 (hcells (gN l t k))) ∧ Hid (Blk wr gz 77 (hcells zeroH)) ∧ Hid (RdC wr g3 (rowsC hb (if t = 77 then nuM else nuN))) ∧ Hid (Stp w wr)) (fun i _ => m - (intOf i).toNat)
      case atStart => exact ⟨0, by omega, rfl, Hb3, Hz3, Hr3, H3⟩
      case round =>
        obtain ⟨k, hk, rfl, Hb, Hz, Hr, Hw⟩ := hrel
        clear Hb3 Hz3 Hr3 H3
        by_cases hlt : k < m
        · obtain ⟨q, wd, f, e1, e2, e3, e4, e5, e6⟩ := gN_step l t k (by rw [Hm.out]; exact hlt)
          obtain ⟨q1, q2, q3⟩ := rowsC_at hb _ k _ e1
          have c1 := Hr.out.2 _ _ q1
          have c2 := Hr.out.2 _ _ q2
          have c3 := Hr.out.2 _ _ q3
          simp only at c1 c2 c3
          have hlw := Hr.out.1
          have hhl := Hb.out.lt
          have hsl := slice_lh b o l.length c q wd (by have := H512.out; omega) e3
          have hwr : IntKind.i64.wrap ((q : Int) + (wd : Int)) = (q : Int) + (wd : Int) := wrap64_of _ (by omega) (by omega)
          have hsl2 := sliceAt_lh b o l.length c q wd (by have := H512.out; omega) e3
          clear q1 q2 q3 e1
          go_wp2_with fail
          generalize hwq : wr.alloc _ = wq
          have d0 : wq.cell? ⟨wr.heap.size, 0, none⟩ = some (.int .i64 (q : Int)) := by rw [← hwq, World.cell?_alloc_new]; rfl
          have d1 : wq.cell? ⟨wr.heap.size, 1, none⟩ = some (.int .i64 (wd : Int)) := by rw [← hwq, World.cell?_alloc_new]; rfl
          have d2 : wq.cell? ⟨wr.heap.size, 2, none⟩ = some (.pointer (some ⟨hb, f, none⟩)) := by rw [← hwq, World.cell?_alloc_new]; rfl
          have hB3 : Blk wq hb 77 (hcells (gN l t k)) := by rw [← hwq]; exact Hb.out.alloc _
          have Hz3 := Lib.hid (show Blk wq gz 77 (hcells zeroH) by rw [← hwq]; exact Hz.out.alloc _)
          have Hr3 := Lib.hid (show RdC wq g3 (rowsC hb (if t = 77 then nuM else nuN)) by rw [← hwq]; exact Hr.out.grown (World.grownBy_alloc wr _ none) (by simp))
          have Hw3 := Lib.hid (show Stp w wq by rw [← hwq]; exact Stp.alloc Hw.out _)
          have hsz : wr.heap.size < wq.heap.size := by rw [← hwq]; simp
          have hne : hb ≠ wr.heap.size := by omega
          have key : ∀ W, Stp wq W → W.cell? ⟨wr.heap.size, 0, none⟩ = some (.int .i64 (q : Int)) ∧ W.cell? ⟨wr.heap.size, 1, none⟩ = some (.int .i64 (wd : Int)) ∧ W.cell? ⟨wr.heap.size, 2, none⟩ = some (.pointer (some ⟨hb, f, none⟩)) ∧ (W.cell? ⟨hb, f, none⟩ = some (cellAt W ⟨hb, f, none⟩) ∧ W.frozen? ⟨hb, f, none⟩ = false) := fun W hW =>
            ⟨(hW.cell (p := ⟨wr.heap.size, 0, none⟩) hsz).trans d0, (hW.cell (p := ⟨wr.heap.size, 1, none⟩) hsz).trans d1, (hW.cell (p := ⟨wr.heap.size, 2, none⟩) hsz).trans d2, open_blk (hB3.keep hW hB3.lt) e5⟩
          have key2 : ∀ W (v : Value), Stp wq W → (W.setCell ⟨hb, f, none⟩ v).cell? ⟨wr.heap.size, 0, none⟩ = some (.int .i64 (q : Int)) ∧ (W.setCell ⟨hb, f, none⟩ v).cell? ⟨wr.heap.size, 1, none⟩ = some (.int .i64 (wd : Int)) ∧ (W.setCell ⟨hb, f, none⟩ v).cell? ⟨wr.heap.size, 2, none⟩ = some (.pointer (some ⟨hb, f, none⟩)) ∧ ((W.setCell ⟨hb, f, none⟩ v).cell? ⟨hb, f, none⟩ = some (cellAt (W.setCell ⟨hb, f, none⟩ v) ⟨hb, f, none⟩) ∧ (W.setCell ⟨hb, f, none⟩ v).frozen? ⟨hb, f, none⟩ = false) := fun W v hW => by
            obtain ⟨k0, k1, k2, k3⟩ := key W hW
            refine ⟨?_, ?_, ?_, ?_⟩
            · rw [World.cell?_setCell_other (h := by rintro e; injection e with e; exact hne e)]; exact k0
            · rw [World.cell?_setCell_other (h := by rintro e; injection e with e; exact hne e)]; exact k1
            · rw [World.cell?_setCell_other (h := by rintro e; injection e with e; exact hne e)]; exact k2
            · exact open_blk ((hB3.keep hW hB3.lt).put f v) (by rw [Array.size_setIfInBounds]; exact e5)
          have Hrd := Lib.hid (show Rd wq.drew wq.drew.heap.size _ (bs (sub l q wd)) from rd_sub (Ha.out.keep (stp_drew Hw3.out)) (i := q) (n := wd) (by have := H512.out; omega))
          have Hbig := Lib.hid (show (sub l q wd).length < 9223372036854775808 by rw [sub_length (by have := H512.out; omega)]; omega)
          obtain ⟨xv, hxv⟩ : ∃ x, getV (sub l q wd) = x := ⟨_, rfl⟩
          rw [hxv] at e6
          have Hxv := Lib.hid hxv
          have E6 := Lib.hid e6
          have Key := Lib.hid key
          have Key2 := Lib.hid key2
          have Hb3 := Lib.hid hB3
          clear hwq c1 c2 c3 Hb Hz Hr Hw hxv e6 key key2 hB3 d0 d1 d2
          go_region_held3 (fun w' => w'.cell? ⟨wr.heap.size, 0, none⟩ = some (.int .i64 (q : Int)) ∧ w'.cell? ⟨wr.heap.size, 1, none⟩ = some (.int .i64 (wd : Int)) ∧ w'.cell? ⟨wr.heap.size, 2, none⟩ = some (.pointer (some ⟨hb, f, none⟩)) ∧ (w'.cell? ⟨hb, f, none⟩ = some (cellAt w' ⟨hb, f, none⟩) ∧ w'.frozen? ⟨hb, f, none⟩ = false))
            (first | exact Key.out _ (stp_drew (Stp.refl wq)) | exact Key.out _ Hs4.out | exact Key2.out _ _ Hs4.out)
            (first | (go_at_call 91; refine (get_s (sub l q wd) _ wq.drew Hrd.out Hbig.out).mono ?_; rintro e w4 ⟨rfl, hs4⟩; have Hs4 := Lib.hid (show Stp wq w4 from ⟨hs4.os, hs4.tape, hs4.output, hs4.size, hs4.block⟩); clear hs4; rw [Hxv.out]))
          go_wp2_with fail
          refine ⟨⟨k + 1, by omega, by go_num, Lib.hid ?_, Lib.hid ?_, Lib.hid ?_, Lib.hid ?_⟩, by simp [intOf]; omega⟩
          · have := (Hb3.out.keep Hs4.out Hb3.out.lt).put f (.int .i64 xv)
            rwa [E6.out] at this
          · exact (Hz3.out.keep Hs4.out Hz3.out.lt).far (show gz ≠ hb by omega) _
          · exact RdC.far (Hr3.out.keep Hs4.out) (show g3 ≠ hb by omega) _
          · exact Below.setCell (Stp.trans Hw3.out Hs4.out) (p := ⟨hb, f, none⟩) (by show w.heap.size ≤ hb; omega) _
        · have hkm : k = m := by omega
          subst hkm
          have hgu : gN l t k = H := by rw [← Hm.out]; exact Hend.out
          have Hb2 := Lib.hid (show Blk wr hb 77 (hcells H) by rw [← hgu]; exact Hb.out)
          obtain ⟨p0, p1, p2, p3, p4, p5, p6, p7, p8, p9, p10⟩ := hd_cells Hb2.out
          obtain ⟨z0, z1, z2, z3, z4, z5, z6, z7, z8, z9, z10⟩ := hd_cells Hz.out
          have y0 := Hz.out.free 0
          have y1 := Hz.out.free 1
          have y2 := Hz.out.free 2
          have y3 := Hz.out.free 3
          have y4 := Hz.out.free 4
          have y5 := Hz.out.free 5
          have y6 := Hz.out.free 6
          have y7 := Hz.out.free 7
          have y8 := Hz.out.free 8
          have y9 := Hz.out.free 9
          have y10 := Hz.out.free 10
          clear hgu Hb Hr c156 hcl Ha H512 Hend hl156 hbw hn9 hg3' hk hlt hm9 Hm h0
          go_wp2_with fail
          have hf := fill_blk H Hz.out
          have hst := fill_stp (g := gz) H Hw.out (by omega)
          change bodyPost _ _ _ _ _ (fillW wr gz H)
          generalize fillW wr gz H = W at hf hst ⊢
          clear p0 p1 p2 p3 p4 p5 p6 p7 p8 p9 p10 z0 z1 z2 z3 z4 z5 z6 z7 z8 z9 z10 y0 y1 y2 y3 y4 y5 y6 y7 y8 y9 y10
          obtain ⟨p0, p1, p2, p3, p4, p5, p6, p7, p8, p9, p10⟩ := hd_cells hf
          refine bodyPost_ret (v := hv H) (by simp [results, Tryz.results56, go_sem, *]) rfl ⟨rfl, hst⟩
end Go.Proofs.YtllnnlmhbmladaaGreatDoor.Head

namespace Go.Proofs.YtllnnlmhbmladaaGreatDoor.Head
open Go.RowKit Go.Proofs.YtllnnlmhbmladaaGreatDoor.Base Go.Proofs.YtllnnlmhbmladaaGreatDoor.NumM Go.Proofs.YtllnnlmhbmladaaGreatDoor.Num

/-- The cells of a header that is zero, and that they can be stored into. -/
theorem zy {w : World} {g : Nat} {t : TypeId} (hb : Blk w g t (hcells zeroH)) :
    ((w.cell? ⟨g, 0, none⟩ = some (.string ⟨#[]⟩) ∧ w.cell? ⟨g, 1, none⟩ = some (.string ⟨#[]⟩) ∧ w.cell? ⟨g, 2, none⟩ = some (.string ⟨#[]⟩) ∧ w.cell? ⟨g, 3, none⟩ = some (.int .i64 0) ∧ w.cell? ⟨g, 4, none⟩ = some (.int .i64 0) ∧ w.cell? ⟨g, 5, none⟩ = some (.int .i64 0) ∧
    w.cell? ⟨g, 6, none⟩ = some (.int .i64 0) ∧ w.cell? ⟨g, 7, none⟩ = some (.int .i64 0) ∧ w.cell? ⟨g, 8, none⟩ = some (.int .u8 0) ∧ w.cell? ⟨g, 9, none⟩ = some (.int .i64 0) ∧ w.cell? ⟨g, 10, none⟩ = some (.int .i64 0)) ∧
    (w.frozen? ⟨g, 0, none⟩ = false ∧ w.frozen? ⟨g, 1, none⟩ = false ∧ w.frozen? ⟨g, 2, none⟩ = false ∧ w.frozen? ⟨g, 3, none⟩ = false ∧ w.frozen? ⟨g, 4, none⟩ = false ∧ w.frozen? ⟨g, 5, none⟩ = false ∧ w.frozen? ⟨g, 6, none⟩ = false ∧ w.frozen? ⟨g, 7, none⟩ = false ∧ w.frozen? ⟨g, 8, none⟩ = false ∧ w.frozen? ⟨g, 9, none⟩ = false ∧ w.frozen? ⟨g, 10, none⟩ = false)) := by
  refine ⟨⟨?_, ?_, ?_, ?_, ?_, ?_, ?_, ?_, ?_, ?_, ?_⟩, ⟨hb.free 0, hb.free 1, hb.free 2, hb.free 3, hb.free 4, hb.free 5, hb.free 6, hb.free 7, hb.free 8, hb.free 9, hb.free 10⟩⟩ <;> (rw [hb.cell]; rfl)

theorem small_guess {l : L} (h : l.length = 512) : SmallH (guessH l) := by
  have hu : ∀ x : L, (upto x).length ≤ x.length := fun x => by
    have := congrArg List.length (upto_take x)
    rw [List.length_take] at this
    omega
  have h1 := hu (sub l 0 100)
  have h2 := hu (sub l 157 100)
  have h3 := hu (sub l 345 155)
  rw [sub_length (by omega)] at h1 h2 h3
  constructor <;> unfold guessH <;> simp only
  · omega
  · split
    · simp
    · omega
  · omega
  · exact (getV_range _).2
  · exact (getV_range _).2
  · exact (getV_range _).2
  · exact (getV_range _).2
  · exact (getV_range _).2
  · split
    · exact (getV_range _).2
    · omega
  · split
    · exact (getV_range _).2
    · omega
theorem blk_length {h : Hd} (hm : mayH h = true) (hs : SmallH h) : (blk h).length = 512 := by
  have h1 : (layAll (zeros 512) (txts h)).length = 512 := by rw [layAll_length (by rw [zeros_length]; exact ps_room hm), zeros_length]
  have h2 : (layAll (layAll (zeros 512) (txts h)) (numsL h)).length = 512 := by rw [layAll_length (by rw [h1]; exact nu_room hm hs), h1]
  have h3 : (rawH h).length = 512 := by
    unfold rawH
    rw [layAll_append, layAll_append]
    show (lay (lay _ 156 [h.ty]) 257 magic).length = 512
    rw [lay_length (by rw [lay_length (by rw [h2]; simp), h2]; decide), lay_length (by rw [h2]; simp), h2]
  unfold blk
  rw [lay_length (by rw [sumT_length, h3]; omega), h3]
theorem putB_eq {l : L} {h : Hd} (hl : l.length = 512) : (putB h == l) = decide (mayH h = true ∧ blk h = l) := by
  unfold putB
  by_cases hm : mayH h = true
  · rw [if_pos hm, Bool.eq_iff_iff, beq_iff_eq, decide_eq_true_eq]
    exact ⟨fun e => ⟨hm, e⟩, fun e => e.2⟩
  · rw [if_neg hm, Bool.eq_iff_iff, beq_iff_eq, decide_eq_true_eq]
    exact ⟨fun e => by rw [← e] at hl; simp at hl, fun e => absurd e.1 hm⟩
theorem slice148 (b o n c : Nat) (hc : 156 ≤ c) (w : World) : (Instr.slice 46 (.slice (some ⟨b, o, none⟩) n c) (some (.int .i64 148)) (some (.int .i64 156)) none).run Tryz.prog w = .ok (.slice (some ⟨b, o + 148, none⟩) 8 (c - 148)) w :=
  slice_lh b o n c 148 8 hc (by omega) w
theorem sliceAt148 (b o n c : Nat) (hc : 156 ≤ c) (w : World) : (Instr.sliceAt 46 (.slice (some ⟨b, o, none⟩) n c) (some (.int .i64 148)) (some (.int .i64 156)) none).run Tryz.prog w = .ok (.slice (some ⟨b, o + 148, none⟩) 8 (c - 148)) w :=
  sliceAt_lh b o n c 148 8 hc (by omega) w

set_option maxHeartbeats 4000000 in
set_option maxRecDepth 100000 in
theorem hget_arg (l : L) (A : Option Addr) (c : Nat) (w : World) (h512 : l.length ≠ 512) :
    Calls Tryz.prog 34 #[.slice A l.length c] w fun e w' => e = .returned (.tuple #[hv zeroH, .int .i64 1]) ∧ Stp w w' := by
  have h0 := Stp.refl w
  have g0 : ((l.length : Int) != 512) = true := by simp; omega
  clear h512
  go_enter Tryz.func34, Tryz.ntmps34
  go_wp2_with fail
  have hf := Blk.new w 77 (hcells zeroH)
  have hst := Stp.alloc h0 (.cells (hcells zeroH) 77)
  obtain ⟨gz, hgz⟩ : ∃ x, w.heap.size = x := ⟨_, rfl⟩
  rw [hgz] at hf
  change bodyPost _ _ _ _ _ (w.alloc (.cells (hcells zeroH) 77))
  generalize w.alloc (.cells (hcells zeroH) 77) = W at hf hst ⊢
  obtain ⟨p0, p1, p2, p3, p4, p5, p6, p7, p8, p9, p10⟩ := hd_cells hf
  refine bodyPost_ret (v := .tuple #[hv zeroH, .int .i64 1]) (by simp [results, Tryz.results34, go_sem, *]) rfl ⟨rfl, hst⟩

set_option maxHeartbeats 4000000 in
set_option maxRecDepth 100000 in
theorem hget_zero (l : L) (A : Option Addr) (c : Nat) (w : World) (ha : RdA w A c (bs l)) (h512 : l.length = 512) (hz : zeroV l = true) :
    Calls Tryz.prog 34 #[.slice A l.length c] w fun e w' => e = .returned (.tuple #[hv zeroH, .int .i64 4]) ∧ Stp w w' := by
  have h0 := Stp.refl w
  have g0 : ((l.length : Int) != 512) = false := by simp; omega
  have Hl := Lib.hid (show l.length < 9223372036854775808 by omega)
  have Hz := Lib.hid hz
  have Hb0 := Lib.hid (Blk.new w 77 (hcells zeroH))
  have Ha := Lib.hid (ha.keep (Stp.alloc h0 (.cells (hcells zeroH) 77)))
  obtain ⟨gz, hgz⟩ : ∃ x, w.heap.size = x := ⟨_, rfl⟩
  rw [hgz] at Hb0
  clear h512 hz ha
  go_enter Tryz.func34, Tryz.ntmps34
  go_wp2_with (first
    | (go_at_call 54; refine (zero_s l _ _ _ Ha.out Hl.out).mono ?_; rintro e w1 ⟨rfl, hs⟩; rw [Hz.out]; have Hb1 := Lib.hid (Hb0.out.keep hs Hb0.out.lt); have H1 := Lib.hid (Stp.trans (Stp.alloc h0 _) hs); clear hs; obtain ⟨⟨z0, z1, z2, z3, z4, z5, z6, z7, z8, z9, z10⟩, ⟨y0, y1, y2, y3, y4, y5, y6, y7, y8, y9, y10⟩⟩ := zy Hb1.out))
  have hf := fill_blk zeroH Hb1.out
  have hst := fill_stp (g := gz) zeroH H1.out (by omega)
  change bodyPost _ _ _ _ _ (fillW w1 gz zeroH)
  generalize fillW w1 gz zeroH = W at hf hst ⊢
  clear z0 z1 z2 z3 z4 z5 z6 z7 z8 z9 z10 y0 y1 y2 y3 y4 y5 y6 y7 y8 y9 y10
  obtain ⟨p0, p1, p2, p3, p4, p5, p6, p7, p8, p9, p10⟩ := hd_cells hf
  refine bodyPost_ret (v := .tuple #[hv zeroH, .int .i64 4]) (by simp [results, Tryz.results34, go_sem, *]) rfl ⟨rfl, hst⟩

set_option maxHeartbeats 4000000 in
set_option maxRecDepth 100000 in
theorem hget_sum (l : L) (A : Option Addr) (c : Nat) (w : World) (ha : RdA w A c (bs l)) (h512 : l.length = 512) (hz : zeroV l = false) (hne : sub l 148 8 ≠ sumT l) :
    Calls Tryz.prog 34 #[.slice A l.length c] w fun e w' => e = .returned (.tuple #[hv zeroH, .int .i64 3]) ∧ Stp w w' := by
  have h0 := Stp.refl w
  have g0 : ((l.length : Int) != 512) = false := by simp; omega
  have Hl := Lib.hid (show l.length < 9223372036854775808 by omega)
  have Hz := Lib.hid hz
  have Hb0 := Lib.hid (Blk.new w 77 (hcells zeroH))
  have Ha := Lib.hid (ha.keep (Stp.alloc h0 (.cells (hcells zeroH) 77)))
  obtain ⟨gz, hgz⟩ : ∃ x, w.heap.size = x := ⟨_, rfl⟩
  rw [hgz] at Hb0
  have H512 := Lib.hid h512
  obtain ⟨b, o, rfl, hcell⟩ := ha.at_ (j := 0) (by rw [bs_length]; omega)
  have hcl := ha.length_le
  rw [bs_length] at hcl
  have hsl := slice148 b o l.length c (by omega)
  have hsl2 := sliceAt148 b o l.length c (by omega)
  obtain ⟨T, hT⟩ : ∃ T, sub l 148 8 = T := ⟨_, rfl⟩
  obtain ⟨S, hS⟩ : ∃ S, sumT l = S := ⟨_, rfl⟩
  have HS := Lib.hid hS
  have hcv : ∀ W, Stp w W → (convert 46 9 (.slice (some ⟨b, o + 148, none⟩) 8 (c - 148))).run Tryz.prog W = .ok (.string ⟨T.toArray⟩) W := fun W hW => by
    rw [← hT]
    exact Num.str_of W _ _ _ (rd_sub (ha.keep hW) (i := 148) (n := 8) (by omega))
  have Hcv := Lib.hid hcv
  rw [hT, hS] at hne
  have hq : (T == S) = false := beq_eq_false_iff_ne.2 hne
  clear h512 hz ha hcell hcl hcv hT hS hne
  go_enter Tryz.func34, Tryz.ntmps34
  go_wp2_with (first
    | (go_at_call 54; refine (zero_s l _ _ _ Ha.out Hl.out).mono ?_; rintro e w1 ⟨rfl, hs⟩; rw [Hz.out]; have Hb1 := Lib.hid (Hb0.out.keep hs Hb0.out.lt); have H1 := Lib.hid (Stp.trans (Stp.alloc h0 _) hs); have Ha1 := Lib.hid (Ha.out.keep hs); clear hs))
  go_region_held3 (fun w' => (convert 46 9 (.slice (some ⟨b, o + 148, none⟩) 8 (c - 148))).run Tryz.prog w' = .ok (.string ⟨T.toArray⟩) w')
    (first | exact Hcv.out _ (stp_drew H1.out) | exact Hcv.out _ H2.out)
    (first | (go_at_call 55; refine (sumText_s l _ _ w1.drew (show RdA w1.drew _ _ _ from Ha1.out) H512.out).mono ?_; rintro e w2 ⟨rfl, hs⟩; rw [HS.out]; have H2 := Lib.hid (Stp.trans (stp_drew H1.out) hs); have Hb2 := Lib.hid ((show Blk w1.drew gz 77 (hcells zeroH) from Hb1.out).keep hs Hb1.out.lt); have Ha2 := Lib.hid ((show RdA w1.drew (some ⟨b, o, none⟩) c (bs l) from Ha1.out).keep hs); clear hs))
  obtain ⟨⟨z0, z1, z2, z3, z4, z5, z6, z7, z8, z9, z10⟩, ⟨y0, y1, y2, y3, y4, y5, y6, y7, y8, y9, y10⟩⟩ := zy Hb2.out
  go_wp2_with fail
  have hf := fill_blk zeroH Hb2.out
  have hst := fill_stp (g := gz) zeroH H2.out (by omega)
  change bodyPost _ _ _ _ _ (fillW w2 gz zeroH)
  generalize fillW w2 gz zeroH = W at hf hst ⊢
  clear z0 z1 z2 z3 z4 z5 z6 z7 z8 z9 z10 y0 y1 y2 y3 y4 y5 y6 y7 y8 y9 y10
  obtain ⟨p0, p1, p2, p3, p4, p5, p6, p7, p8, p9, p10⟩ := hd_cells hf
  refine bodyPost_ret (v := .tuple #[hv zeroH, .int .i64 3]) (by simp [results, Tryz.results34, go_sem, *]) rfl ⟨rfl, hst⟩

set_option maxHeartbeats 4000000 in
set_option maxRecDepth 100000 in
theorem hget_form (l : L) (A : Option Addr) (c : Nat) (w : World) (ha : RdA w A c (bs l)) (h512 : l.length = 512) (hz : zeroV l = false) (hne : sub l 148 8 = sumT l) (hno : ¬ (mayH (guessH l) = true ∧ blk (guessH l) = l)) :
    Calls Tryz.prog 34 #[.slice A l.length c] w fun e w' => e = .returned (.tuple #[hv zeroH, .int .i64 2]) ∧ Stp w w' := by
  have h0 := Stp.refl w
  have g0 : ((l.length : Int) != 512) = false := by simp; omega
  have Hl := Lib.hid (show l.length < 9223372036854775808 by omega)
  have Hz := Lib.hid hz
  have Hb0 := Lib.hid (Blk.new w 77 (hcells zeroH))
  have Ha := Lib.hid (ha.keep (Stp.alloc h0 (.cells (hcells zeroH) 77)))
  obtain ⟨gz, hgz⟩ : ∃ x, w.heap.size = x := ⟨_, rfl⟩
  rw [hgz] at Hb0
  have H512 := Lib.hid h512
  obtain ⟨b, o, rfl, hcell⟩ := ha.at_ (j := 0) (by rw [bs_length]; omega)
  have hcl := ha.length_le
  rw [bs_length] at hcl
  have hsl := slice148 b o l.length c (by omega)
  have hsl2 := sliceAt148 b o l.length c (by omega)
  obtain ⟨T, hT⟩ : ∃ T, sub l 148 8 = T := ⟨_, rfl⟩
  obtain ⟨S, hS⟩ : ∃ S, sumT l = S := ⟨_, rfl⟩
  have HS := Lib.hid hS
  have hcv : ∀ W, Stp w W → (convert 46 9 (.slice (some ⟨b, o + 148, none⟩) 8 (c - 148))).run Tryz.prog W = .ok (.string ⟨T.toArray⟩) W := fun W hW => by
    rw [← hT]
    exact Num.str_of W _ _ _ (rd_sub (ha.keep hW) (i := 148) (n := 8) (by omega))
  have Hcv := Lib.hid hcv
  rw [hT, hS] at hne
  have hq : (T == S) = true := by rw [hne]; simp
  obtain ⟨G, hG⟩ : ∃ G, guessH l = G := ⟨_, rfl⟩
  have HG := Lib.hid hG
  have hsm := small_guess h512
  rw [hG] at hsm
  have Hsm := Lib.hid hsm
  have heq := putB_eq (h := G) h512
  rw [hG] at hno
  rw [decide_eq_false hno] at heq
  have Heq := Lib.hid heq
  clear h512 hz ha hcell hcl hcv hT hS hne hG hsm heq hno
  go_enter Tryz.func34, Tryz.ntmps34
  go_wp2_with (first
    | (go_at_call 54; refine (zero_s l _ _ _ Ha.out Hl.out).mono ?_; rintro e w1 ⟨rfl, hs⟩; rw [Hz.out]; have Hb1 := Lib.hid (Hb0.out.keep hs Hb0.out.lt); have H1 := Lib.hid (Stp.trans (Stp.alloc h0 _) hs); have Ha1 := Lib.hid (Ha.out.keep hs); clear hs))
  go_region_held3 (fun w' => (convert 46 9 (.slice (some ⟨b, o + 148, none⟩) 8 (c - 148))).run Tryz.prog w' = .ok (.string ⟨T.toArray⟩) w')
    (first | exact Hcv.out _ (stp_drew H1.out) | exact Hcv.out _ H2.out)
    (first | (go_at_call 55; refine (sumText_s l _ _ w1.drew (show RdA w1.drew _ _ _ from Ha1.out) H512.out).mono ?_; rintro e w2 ⟨rfl, hs⟩; rw [HS.out]; have H2 := Lib.hid (Stp.trans (stp_drew H1.out) hs); have Hb2 := Lib.hid ((show Blk w1.drew gz 77 (hcells zeroH) from Hb1.out).keep hs Hb1.out.lt); have Ha2 := Lib.hid ((show RdA w1.drew (some ⟨b, o, none⟩) c (bs l) from Ha1.out).keep hs); clear hs))
  go_wp2_with (first
    | (go_at_call 56; refine (guess_s l _ _ _ Ha2.out H512.out).mono ?_; rintro e w3 ⟨rfl, hs⟩; rw [HG.out]; have H3 := Lib.hid (Stp.trans H2.out hs); have Hb3 := Lib.hid (Hb2.out.keep hs Hb2.out.lt); have Ha3 := Lib.hid (Ha2.out.keep hs); clear hs Hb2 Ha2)
    | (go_at_call 57; refine (put_s G Hsm.out _).mono ?_; rintro e w4 ⟨A4, c4, rfl, hr, hs⟩; have Hr4 := Lib.hid hr; have H4 := Lib.hid (Stp.trans (Stp.alloc H3.out _) hs); have Hb4 := Lib.hid ((Hb3.out.alloc _).keep hs (Hb3.out.alloc _).lt); have Hg4 := Lib.hid ((Blk.new w3 77 (hcells G)).keep hs (Blk.new w3 77 (hcells G)).lt); have Ha4 := Lib.hid ((Ha3.out.keep (Stp.alloc (Stp.refl w3) _)).keep hs); have hlt3 := Hb3.out.lt; clear hr hs Hb3 Ha3; generalize mayH G = mg)
    | (go_at_call 37; refine (equal_s (putB G) l _ _ _ _ _ Hr4.out Ha4.out).mono ?_; rintro e w5 ⟨rfl, hs⟩; rw [Heq.out]; have H5 := Lib.hid (Stp.trans H4.out hs); have Hb5 := Lib.hid (Hb4.out.keep hs Hb4.out.lt); have Hg5 := Lib.hid (Hg4.out.keep hs Hg4.out.lt); clear hs Hb4 Hg4 Hr4 Ha4; obtain ⟨⟨z0, z1, z2, z3, z4, z5, z6, z7, z8, z9, z10⟩, ⟨y0, y1, y2, y3, y4, y5, y6, y7, y8, y9, y10⟩⟩ := zy Hb5.out))
  have hf := fill_blk zeroH Hb5.out
  have hst := fill_stp (g := gz) zeroH H5.out (by omega)
  change bodyPost _ _ _ _ _ (fillW w5 gz zeroH)
  generalize fillW w5 gz zeroH = W at hf hst ⊢
  clear z0 z1 z2 z3 z4 z5 z6 z7 z8 z9 z10 y0 y1 y2 y3 y4 y5 y6 y7 y8 y9 y10
  obtain ⟨p0, p1, p2, p3, p4, p5, p6, p7, p8, p9, p10⟩ := hd_cells hf
  refine bodyPost_ret (v := .tuple #[hv zeroH, .int .i64 2]) (by simp [results, Tryz.results34, go_sem, *]) rfl ⟨rfl, hst⟩

set_option maxHeartbeats 4000000 in
set_option maxRecDepth 100000 in
theorem hget_ok (l : L) (A : Option Addr) (c : Nat) (w : World) (ha : RdA w A c (bs l)) (h512 : l.length = 512) (hz : zeroV l = false) (hne : sub l 148 8 = sumT l) (hno : mayH (guessH l) = true ∧ blk (guessH l) = l) :
    Calls Tryz.prog 34 #[.slice A l.length c] w fun e w' => e = .returned (.tuple #[hv (guessH l), .int .i64 0]) ∧ Stp w w' := by
  have h0 := Stp.refl w
  have g0 : ((l.length : Int) != 512) = false := by simp; omega
  have Hl := Lib.hid (show l.length < 9223372036854775808 by omega)
  have Hz := Lib.hid hz
  have Hb0 := Lib.hid (Blk.new w 77 (hcells zeroH))
  have Ha := Lib.hid (ha.keep (Stp.alloc h0 (.cells (hcells zeroH) 77)))
  obtain ⟨gz, hgz⟩ : ∃ x, w.heap.size = x := ⟨_, rfl⟩
  rw [hgz] at Hb0
  have H512 := Lib.hid h512
  obtain ⟨b, o, rfl, hcell⟩ := ha.at_ (j := 0) (by rw [bs_length]; omega)
  have hcl := ha.length_le
  rw [bs_length] at hcl
  have hsl := slice148 b o l.length c (by omega)
  have hsl2 := sliceAt148 b o l.length c (by omega)
  obtain ⟨T, hT⟩ : ∃ T, sub l 148 8 = T := ⟨_, rfl⟩
  obtain ⟨S, hS⟩ : ∃ S, sumT l = S := ⟨_, rfl⟩
  have HS := Lib.hid hS
  have hcv : ∀ W, Stp w W → (convert 46 9 (.slice (some ⟨b, o + 148, none⟩) 8 (c - 148))).run Tryz.prog W = .ok (.string ⟨T.toArray⟩) W := fun W hW => by
    rw [← hT]
    exact Num.str_of W _ _ _ (rd_sub (ha.keep hW) (i := 148) (n := 8) (by omega))
  have Hcv := Lib.hid hcv
  rw [hT, hS] at hne
  have hq : (T == S) = true := by rw [hne]; simp
  obtain ⟨G, hG⟩ : ∃ G, guessH l = G := ⟨_, rfl⟩
  have HG := Lib.hid hG
  have hsm := small_guess h512
  rw [hG] at hsm ⊢
  have Hsm := Lib.hid hsm
  have heq := putB_eq (h := G) h512
  rw [hG] at hno
  rw [decide_eq_true hno] at heq
  have Heq := Lib.hid heq
  clear h512 hz ha hcell hcl hcv hT hS hne hG hsm heq hno
  go_enter Tryz.func34, Tryz.ntmps34
  go_wp2_with (first
    | (go_at_call 54; refine (zero_s l _ _ _ Ha.out Hl.out).mono ?_; rintro e w1 ⟨rfl, hs⟩; rw [Hz.out]; have Hb1 := Lib.hid (Hb0.out.keep hs Hb0.out.lt); have H1 := Lib.hid (Stp.trans (Stp.alloc h0 _) hs); have Ha1 := Lib.hid (Ha.out.keep hs); clear hs))
  go_region_held3 (fun w' => (convert 46 9 (.slice (some ⟨b, o + 148, none⟩) 8 (c - 148))).run Tryz.prog w' = .ok (.string ⟨T.toArray⟩) w')
    (first | exact Hcv.out _ (stp_drew H1.out) | exact Hcv.out _ H2.out)
    (first | (go_at_call 55; refine (sumText_s l _ _ w1.drew (show RdA w1.drew _ _ _ from Ha1.out) H512.out).mono ?_; rintro e w2 ⟨rfl, hs⟩; rw [HS.out]; have H2 := Lib.hid (Stp.trans (stp_drew H1.out) hs); have Hb2 := Lib.hid ((show Blk w1.drew gz 77 (hcells zeroH) from Hb1.out).keep hs Hb1.out.lt); have Ha2 := Lib.hid ((show RdA w1.drew (some ⟨b, o, none⟩) c (bs l) from Ha1.out).keep hs); clear hs))
  go_wp2_with (first
    | (go_at_call 56; refine (guess_s l _ _ _ Ha2.out H512.out).mono ?_; rintro e w3 ⟨rfl, hs⟩; rw [HG.out]; have H3 := Lib.hid (Stp.trans H2.out hs); have Hb3 := Lib.hid (Hb2.out.keep hs Hb2.out.lt); have Ha3 := Lib.hid (Ha2.out.keep hs); clear hs Hb2 Ha2)
    | (go_at_call 57; refine (put_s G Hsm.out _).mono ?_; rintro e w4 ⟨A4, c4, rfl, hr, hs⟩; have Hr4 := Lib.hid hr; have H4 := Lib.hid (Stp.trans (Stp.alloc H3.out _) hs); have Hb4 := Lib.hid ((Hb3.out.alloc _).keep hs (Hb3.out.alloc _).lt); have Hg4 := Lib.hid ((Blk.new w3 77 (hcells G)).keep hs (Blk.new w3 77 (hcells G)).lt); have Ha4 := Lib.hid ((Ha3.out.keep (Stp.alloc (Stp.refl w3) _)).keep hs); have hlt3 := Hb3.out.lt; clear hr hs Hb3 Ha3; generalize mayH G = mg)
    | (go_at_call 37; refine (equal_s (putB G) l _ _ _ _ _ Hr4.out Ha4.out).mono ?_; rintro e w5 ⟨rfl, hs⟩; rw [Heq.out]; have H5 := Lib.hid (Stp.trans H4.out hs); have Hb5 := Lib.hid (Hb4.out.keep hs Hb4.out.lt); have Hg5 := Lib.hid (Hg4.out.keep hs Hg4.out.lt); clear hs Hb4 Hg4 Hr4 Ha4; obtain ⟨⟨z0, z1, z2, z3, z4, z5, z6, z7, z8, z9, z10⟩, ⟨y0, y1, y2, y3, y4, y5, y6, y7, y8, y9, y10⟩⟩ := zy Hb5.out; obtain ⟨x0, x1, x2, x3, x4, x5, x6, x7, x8, x9, x10⟩ := hd_cells Hg5.out))
  have hf := fill_blk G Hb5.out
  have hst := fill_stp (g := gz) G H5.out (by omega)
  change bodyPost _ _ _ _ _ (fillW w5 gz G)
  generalize fillW w5 gz G = W at hf hst ⊢
  clear x0 x1 x2 x3 x4 x5 x6 x7 x8 x9 x10 z0 z1 z2 z3 z4 z5 z6 z7 z8 z9 z10 y0 y1 y2 y3 y4 y5 y6 y7 y8 y9 y10
  obtain ⟨p0, p1, p2, p3, p4, p5, p6, p7, p8, p9, p10⟩ := hd_cells hf
  refine bodyPost_ret (v := .tuple #[hv G, .int .i64 0]) (by simp [results, Tryz.results34, go_sem, *]) rfl ⟨rfl, hst⟩

theorem hget_s (l : L) (A : Option Addr) (c : Nat) (w : World) (ha : RdA w A c (bs l)) :
    Calls Tryz.prog 34 #[.slice A l.length c] w fun e w' => e = .returned (.tuple #[hv (getH l), .int .i64 (codeB l)]) ∧ Stp w w' := by
  unfold getH codeB
  by_cases h512 : l.length = 512
  · rw [if_pos h512]
    by_cases hz : l = zeros 512
    · rw [if_pos hz, if_neg (by decide)]
      exact hget_zero l A c w ha h512 (zeroV_iff.2 (by rw [h512]; exact hz))
    · rw [if_neg hz]
      have hz2 : zeroV l = false := by
        rw [Bool.eq_false_iff]
        intro h
        have := zeroV_iff.1 h
        rw [h512] at this
        exact hz this
      by_cases hs : sub l 148 8 = sumT l
      · rw [if_pos hs]
        by_cases hm : mayH (guessH l) = true ∧ blk (guessH l) = l
        · rw [if_pos hm, if_pos rfl]
          exact hget_ok l A c w ha h512 hz2 hs hm
        · rw [if_neg hm, if_neg (by decide)]
          exact hget_form l A c w ha h512 hz2 hs hm
      · rw [if_neg hs, if_neg (by decide)]
        exact hget_sum l A c w ha h512 hz2 hs
  · rw [if_neg h512, if_neg (by decide)]
    exact hget_arg l A c w h512
end Go.Proofs.YtllnnlmhbmladaaGreatDoor.Head

