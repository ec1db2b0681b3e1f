/-
  The document's own answers for package head: guess; no statement is proved here.
-/
import Derived.Test.YtleoiejkipobbaaHeadRef4
namespace Go.Proofs.Ytleoiejkipobbaa.Head
open Go.RowKit Go.Proofs.Ytleoiejkipobbaa.Base Go.Proofs.Ytleoiejkipobbaa.NumM Go.Proofs.Ytleoiejkipobbaa.Num

theorem rget_s (l : L) (v : Value) (w : World) (hv : Rd w w.heap.size v (bs l)) (hbig : l.length < 9223372036854775808) :
    Calls Try.prog 81 #[v] w fun e w' => e = .returned (.tuple #[.int .i64 (getV l), .bool (okN l)]) ∧ Stp w w' :=
  (rget_any l v _ w hv (Nat.le_refl _) hbig).mono fun e _ h => ⟨getIs_getV l e h.1, h.2⟩
theorem rupto_v (x : L) (v : Value) (w : World) (hv : Rd w w.heap.size v (bs x)) (hbig : x.length < 9223372036854775808) :
    Calls Try.prog 80 #[v] w fun e w' => e = .returned (.string ⟨(upto x).toArray⟩) ∧ Stp w w' := by
  obtain ⟨A, cap, rfl, ha⟩ := RdA.of hv
  rw [bs_length]
  exact rupto_s x A cap w ha hbig
theorem rd_head {w : World} {b o c : Nat} {l : L} (h : RdA w (some ⟨b, o, none⟩) c (bs l)) (hn : 100 ≤ l.length) : Rd w w.heap.size (.slice (some ⟨b, o, none⟩) 100 c) (bs (sub l 0 100)) := by
  have := rd_sub h (i := 0) (n := 100) (by omega)
  rwa [Nat.add_zero, Nat.sub_zero] at this
theorem slice_hd (b o n c : Nat) (hc : 100 ≤ c) (w : World) : (Instr.slice 24 (.slice (some ⟨b, o, none⟩) n c) none (some (.int .i64 100)) none).run Try.prog w = .ok (.slice (some ⟨b, o, none⟩) 100 c) w := by
  have he : Try.prog.elem 24 = 5 := by kernel_rfl
  have hs : (sizeOf 5).run Try.prog w = .ok 1 w := by
    have hi : (Try.prog.info? 5).map (·.size) = some 1 := by kernel_rfl
    cases hq : Try.prog.info? 5 with
    | none => simp [hq] at hi
    | some i =>
      have : i.size = 1 := by simpa [hq] using hi
      simp [sizeOf, typeInfo, hq, this]
  rw [run_slice_h (P := Try.prog) w 24 _ _ _ (by rw [he]; exact Try.underlying24) .i64 100 (by omega) (by omega), he, hs]
  simp only [Result.andThen_ok, sliced]
  simp
  intro _
  rw [Addr.add_lit, Nat.add_zero]
theorem slice_lit (b o n c i m : Nat) (lo hj : Int) (h1 : lo = (i : Int)) (h2 : hj = (i : Int) + (m : Int)) (hi : i + m ≤ c) (hm : 0 < m) (w : World) : (Instr.slice 24 (.slice (some ⟨b, o, none⟩) n c) (some (.int .i64 lo)) (some (.int .i64 hj)) none).run Try.prog w = .ok (.slice (some ⟨b, o + i, none⟩) m (c - i)) w := by
  subst h1 h2
  exact slice_lh b o n c i m hi hm w

/-- The header while it is read. -/
def gR (b : L) (t : UInt8) (m : Bool) (k : Nat) : Hd :=
  { name := upto (sub b 0 100), pre := cond m [] (if 5 < k then upto (sub b 345 155) else []), link := upto (sub b 157 100), ty := t,
    mode := if 0 < k then getV (sub b 100 8) else 0, uid := if 1 < k then getV (sub b 108 8) else 0, gid := if 2 < k then getV (sub b 116 8) else 0, size := if 3 < k then getV (sub b 124 12) else 0, time := if 4 < k then getV (sub b 136 12) else 0,
    off := cond m (if 5 < k then getV (sub b 369 12) else 0) 0, real := cond m (if 6 < k then getV (sub b 483 12) else 0) 0 }
theorem gR_end (b : L) (t : UInt8) (ht : (sub b 156 1).headD 0 = t) : (t = 77 → gR b t true 7 = guessH b) ∧ (t ≠ 77 → gR b t false 6 = guessH b) := by
  unfold guessH gR
  rw [ht]
  constructor
  · intro h; simp [h]
  · intro h; simp [h]
theorem gR_0 {w : World} {g : Nat} {ty : TypeId} {b : L} {t : UInt8} {m : Bool} (h : Blk w g ty (hcells (gR b t m 0))) : Blk (w.setCell ⟨g, 3, none⟩ (.int .i64 (getV (sub b 100 8)))) g ty (hcells (gR b t m 1)) := h.put 3 (.int .i64 (getV (sub b 100 8)))
theorem gR_1 {w : World} {g : Nat} {ty : TypeId} {b : L} {t : UInt8} {m : Bool} (h : Blk w g ty (hcells (gR b t m 1))) : Blk (w.setCell ⟨g, 4, none⟩ (.int .i64 (getV (sub b 108 8)))) g ty (hcells (gR b t m 2)) := h.put 4 (.int .i64 (getV (sub b 108 8)))
theorem gR_2 {w : World} {g : Nat} {ty : TypeId} {b : L} {t : UInt8} {m : Bool} (h : Blk w g ty (hcells (gR b t m 2))) : Blk (w.setCell ⟨g, 5, none⟩ (.int .i64 (getV (sub b 116 8)))) g ty (hcells (gR b t m 3)) := h.put 5 (.int .i64 (getV (sub b 116 8)))
theorem gR_3 {w : World} {g : Nat} {ty : TypeId} {b : L} {t : UInt8} {m : Bool} (h : Blk w g ty (hcells (gR b t m 3))) : Blk (w.setCell ⟨g, 6, none⟩ (.int .i64 (getV (sub b 124 12)))) g ty (hcells (gR b t m 4)) := h.put 6 (.int .i64 (getV (sub b 124 12)))
theorem gR_4 {w : World} {g : Nat} {ty : TypeId} {b : L} {t : UInt8} {m : Bool} (h : Blk w g ty (hcells (gR b t m 4))) : Blk (w.setCell ⟨g, 7, none⟩ (.int .i64 (getV (sub b 136 12)))) g ty (hcells (gR b t m 5)) := h.put 7 (.int .i64 (getV (sub b 136 12)))
theorem gR_5m {w : World} {g : Nat} {ty : TypeId} {b : L} {t : UInt8} (h : Blk w g ty (hcells (gR b t true 5))) : Blk (w.setCell ⟨g, 9, none⟩ (.int .i64 (getV (sub b 369 12)))) g ty (hcells (gR b t true 6)) := h.put 9 (.int .i64 (getV (sub b 369 12)))

theorem fin_m {w : World} {g : Nat} {ty : TypeId} {b : L} {t : UInt8} {H : Hd} (h : Blk w g ty (hcells (gR b t true 6))) (e : gR b t true 7 = H) : w.cell? ⟨g, 0, none⟩ = some (.string ⟨H.name.toArray⟩) ∧ w.cell? ⟨g, 1, none⟩ = some (.string ⟨H.pre.toArray⟩) ∧ w.cell? ⟨g, 2, none⟩ = some (.string ⟨H.link.toArray⟩) ∧ w.cell? ⟨g, 3, none⟩ = some (.int .i64 H.mode) ∧ w.cell? ⟨g, 4, none⟩ = some (.int .i64 H.uid) ∧ w.cell? ⟨g, 5, none⟩ = some (.int .i64 H.gid) ∧ w.cell? ⟨g, 6, none⟩ = some (.int .i64 H.size) ∧ w.cell? ⟨g, 7, none⟩ = some (.int .i64 H.time) ∧ w.cell? ⟨g, 8, none⟩ = some (.int .u8 (H.ty.toNat : Int)) ∧ w.cell? ⟨g, 9, none⟩ = some (.int .i64 H.off) ∧ getV (sub b 483 12) = H.real := by
  subst e
  obtain ⟨x0, x1, x2, x3, x4, x5, x6, x7, x8, x9, x10⟩ := hd_cells h
  refine ⟨?_, ?_, ?_, ?_, ?_, ?_, ?_, ?_, ?_, ?_, ?_⟩
  · simpa [gR] using x0
  · simpa [gR] using x1
  · simpa [gR] using x2
  · simpa [gR] using x3
  · simpa [gR] using x4
  · simpa [gR] using x5
  · simpa [gR] using x6
  · simpa [gR] using x7
  · simpa [gR] using x8
  · simpa [gR] using x9
  · simp [gR]
theorem fin_n {w : World} {g : Nat} {ty : TypeId} {b : L} {t : UInt8} {H : Hd} (h : Blk w g ty (hcells (gR b t false 5))) (e : gR b t false 6 = H) : w.cell? ⟨g, 0, none⟩ = some (.string ⟨H.name.toArray⟩) ∧ w.cell? ⟨g, 2, none⟩ = some (.string ⟨H.link.toArray⟩) ∧ w.cell? ⟨g, 3, none⟩ = some (.int .i64 H.mode) ∧ w.cell? ⟨g, 4, none⟩ = some (.int .i64 H.uid) ∧ w.cell? ⟨g, 5, none⟩ = some (.int .i64 H.gid) ∧ w.cell? ⟨g, 6, none⟩ = some (.int .i64 H.size) ∧ w.cell? ⟨g, 7, none⟩ = some (.int .i64 H.time) ∧ w.cell? ⟨g, 8, none⟩ = some (.int .u8 (H.ty.toNat : Int)) ∧ w.cell? ⟨g, 9, none⟩ = some (.int .i64 H.off) ∧ w.cell? ⟨g, 10, none⟩ = some (.int .i64 H.real) ∧ upto (sub b 345 155) = H.pre := by
  subst e
  obtain ⟨x0, x1, x2, x3, x4, x5, x6, x7, x8, x9, x10⟩ := hd_cells h
  refine ⟨?_, ?_, ?_, ?_, ?_, ?_, ?_, ?_, ?_, ?_, ?_⟩
  · simpa [gR] using x0
  · simpa [gR] using x2
  · simpa [gR] using x3
  · simpa [gR] using x4
  · simpa [gR] using x5
  · simpa [gR] using x6
  · simpa [gR] using x7
  · simpa [gR] using x8
  · simpa [gR] using x9
  · simpa [gR] using x10
  · simp [gR]

set_option linter.unusedSimpArgs false in
set_option maxHeartbeats 8000000 in
set_option maxRecDepth 100000 in
theorem rguess_s (l : L) (A : Option Addr) (c : Nat) (w : World) (ha : RdA w A c (bs l)) (h512 : l.length = 512) :
    Calls Try.prog 53 #[.slice A l.length c] w fun e w' => e = .returned (hv (guessH l)) ∧ Stp w w' := by
  have h0 := Stp.refl w
  obtain ⟨t, ht⟩ : ∃ t, l[156]? = some t := ⟨_, List.getElem?_eq_getElem (by omega)⟩
  have hend := gR_end l t (sub_head t ht)
  obtain ⟨b, o, rfl, hcell⟩ := ha.at_ (j := 156) (by rw [bs_length]; omega)
  have c156 := hcell 156 (.int .u8 (t.toNat : Int)) (by rw [bs_at (by omega), ← (List.getElem?_eq_some_iff.1 ht).2])
  have hcl := ha.length_le
  rw [bs_length] at hcl
  have hs0 := slice_hd b o l.length c (by omega)
  have hs1 := slice_lit b o l.length c 157 100 157 257 (by omega) (by omega) (by omega) (by omega)
  have Hs2 := Lib.hid (slice_lit b o l.length c 100 8 100 108 (by omega) (by omega) (by omega) (by omega))
  have Hs3 := Lib.hid (slice_lit b o l.length c 108 8 108 116 (by omega) (by omega) (by omega) (by omega))
  have Hs4 := Lib.hid (slice_lit b o l.length c 116 8 116 124 (by omega) (by omega) (by omega) (by omega))
  have Hs5 := Lib.hid (slice_lit b o l.length c 124 12 124 136 (by omega) (by omega) (by omega) (by omega))
  have Hs6 := Lib.hid (slice_lit b o l.length c 136 12 136 148 (by omega) (by omega) (by omega) (by omega))
  have Hs7 := Lib.hid (slice_lit b o l.length c 369 12 369 381 (by omega) (by omega) (by omega) (by omega))
  have Hs8 := Lib.hid (slice_lit b o l.length c 483 12 483 495 (by omega) (by omega) (by omega) (by omega))
  have Hs9 := Lib.hid (slice_lit b o l.length c 345 155 345 500 (by omega) (by omega) (by omega) (by omega))
  have hl156 : (156 : Int) < (l.length : Int) := by omega
  have Hbw := Lib.hid (World.block_lt_of_cell? w _ c156)
  obtain ⟨H, hH⟩ : ∃ H, guessH l = H := ⟨_, rfl⟩
  rw [hH] at hend ⊢
  have Hend := Lib.hid hend
  have H512 := Lib.hid h512
  obtain ⟨N, hN⟩ : ∃ N, l.length = N := ⟨_, rfl⟩
  have HN := Lib.hid hN
  rw [hN] at hs0 hs1 Hs2 Hs3 Hs4 Hs5 Hs6 Hs7 Hs8 Hs9 hl156 ⊢
  clear hcell ht h512 hend hH hcl hN
  go_enter Try.func53, Try.ntmps53
  go_wp2_with fail
  have hz1 : Blk (w.alloc (.cells (hcells zeroH) 23)) w.heap.size 23 (hcells zeroH) := Blk.new w _ _
  have h1 : Stp w (w.alloc (.cells (hcells zeroH) 23)) := Stp.alloc h0 _
  have hsz1 : w.heap.size < (w.alloc (.cells (hcells zeroH) 23)).heap.size := by simp
  change Code.wp _ _ _ _ (w.alloc (.cells (hcells zeroH) 23))
  generalize w.alloc (.cells (hcells zeroH) 23) = w1 at hz1 h1 hsz1 ⊢
  have Ha := Lib.hid (ha.keep h1)
  have Hz1 := Lib.hid hz1
  have H1 := Lib.hid h1
  have key : ∀ W, Stp w1 W → W.cell? ⟨b, o + 156, none⟩ = some (.int .u8 (t.toNat : Int)) := fun W hW =>
    (hW.cell (p := ⟨b, o + 156, none⟩) (Nat.lt_trans Hbw.out hsz1)).trans ((h1.cell (p := ⟨b, o + 156, none⟩) Hbw.out).trans c156)
  have Key := Lib.hid key
  obtain ⟨gz, hgz⟩ : ∃ x, w.heap.size = x := ⟨_, rfl⟩
  rw [hgz] at Hz1 hsz1
  (try rw [hgz])
  clear key hz1 h1 ha c156 h0
  refine wp_region_held_drew (S := (fun W : World => W.cell? ⟨b, o + 156, none⟩ = some (.int .u8 (t.toNat : Int)))) (by kernel_rfl) (Key.out _ (stp_drew (Stp.refl _))) (fun hHeld => ?_)
  refine wpAnyH_take (i := 0) (oi := { dst := some 4, op := Go.Op.move (Go.Operand.tmp 0), type := 24, pos := "ref.go:122", after := #[], guard := none }) (v := ?v0) rfl (by kernel_rfl) (by kernel_rfl) (by kernel_rfl) (fun _ _ _ h => h) (Or.inl ⟨by rfl, ?hy0⟩) (by assumption) ?rest0
  case hy0 => (intro w hSw; (try dsimp only at hSw); go_simp; try with_reducible rfl)
  try simp only [Act.put, List.setIfInBounds_toArray, List.set_cons_zero, List.set_cons_succ]
  refine wpAnyH_take (i := 1) (oi := { dst := some 5, op := Go.Op.slice 24 (Go.Operand.tmp 4) none (some (Go.Operand.const (Go.Value.int Go.IntKind.i64 100))) none, type := 24, pos := "ref.go:122", after := #[{ on := 0, ground := Go.Ground.data }], guard := none }) (v := ?v1) rfl (by kernel_rfl) (by kernel_rfl) (by kernel_rfl) (fun _ _ _ h => h) (Or.inl ⟨by rfl, ?hy1⟩) (by assumption) ?rest1
  case hy1 => (intro w hSw; (try dsimp only at hSw); go_simp; try with_reducible rfl)
  try simp only [Act.put, List.setIfInBounds_toArray, List.set_cons_zero, List.set_cons_succ]
  refine wpAnyH_take (i := 3) (oi := { dst := some 7, op := Go.Op.move (Go.Operand.tmp 0), type := 24, pos := "ref.go:122", after := #[], guard := none }) (v := ?v3) rfl (by kernel_rfl) (by kernel_rfl) (by kernel_rfl) (fun _ _ _ h => h) (Or.inl ⟨by rfl, ?hy3⟩) (by assumption) ?rest3
  case hy3 => (intro w hSw; (try dsimp only at hSw); go_simp; try with_reducible rfl)
  try simp only [Act.put, List.setIfInBounds_toArray, List.set_cons_zero, List.set_cons_succ]
  refine wpAnyH_take (i := 4) (oi := { dst := some 8, op := Go.Op.slice 24 (Go.Operand.tmp 7) (some (Go.Operand.const (Go.Value.int Go.IntKind.i64 157))) (some (Go.Operand.const (Go.Value.int Go.IntKind.i64 257))) none, type := 24, pos := "ref.go:122", after := #[{ on := 3, ground := Go.Ground.data }], guard := none }) (v := ?v4) rfl (by kernel_rfl) (by kernel_rfl) (by kernel_rfl) (fun _ _ _ h => h) (Or.inl ⟨by rfl, ?hy4⟩) (by assumption) ?rest4
  case hy4 => (intro w hSw; (try dsimp only at hSw); go_simp; try with_reducible rfl)
  try simp only [Act.put, List.setIfInBounds_toArray, List.set_cons_zero, List.set_cons_succ]
  refine wpAnyH_take (i := 6) (oi := { dst := some 10, op := Go.Op.move (Go.Operand.tmp 0), type := 24, pos := "ref.go:122", after := #[], guard := none }) (v := ?v6) rfl (by kernel_rfl) (by kernel_rfl) (by kernel_rfl) (fun _ _ _ h => h) (Or.inl ⟨by rfl, ?hy6⟩) (by assumption) ?rest6
  case hy6 => (intro w hSw; (try dsimp only at hSw); go_simp; try with_reducible rfl)
  try simp only [Act.put, List.setIfInBounds_toArray, List.set_cons_zero, List.set_cons_succ]
  refine wpAnyH_take (i := 7) (oi := { dst := some 11, op := Go.Op.indexAddr 24 (Go.Operand.tmp 10) (Go.Operand.const (Go.Value.int Go.IntKind.i64 156)), type := 0, pos := "ref.go:122", after := #[{ on := 6, ground := Go.Ground.data }], guard := none }) (v := ?v7) rfl (by kernel_rfl) (by kernel_rfl) (by kernel_rfl) (fun _ _ _ h => h) (Or.inl ⟨by rfl, ?hy7⟩) (by assumption) ?rest7
  case hy7 => (intro w hSw; (try dsimp only at hSw); go_simp; try with_reducible rfl)
  try simp only [Act.put, List.setIfInBounds_toArray, List.set_cons_zero, List.set_cons_succ]
  refine wpAnyH_take (i := 8) (oi := { dst := some 12, op := Go.Op.load 5 (Go.Operand.tmp 11), type := 5, pos := "ref.go:122", after := #[{ on := 7, ground := Go.Ground.data }], guard := none }) (v := ?v8) rfl (by kernel_rfl) (by kernel_rfl) (by kernel_rfl) (fun _ _ _ h => h) (Or.inl ⟨by rfl, ?hy8⟩) (by assumption) ?rest8
  case hy8 => (intro w hSw; (try dsimp only at hSw); go_simp; try with_reducible rfl)
  try simp only [Act.put, List.setIfInBounds_toArray, List.set_cons_zero, List.set_cons_succ]
  refine wpAnyH_ready (rs := [2, 10]) (by kernel_rfl) (by simp) ?_
  refine AllReadyH.cons (o := { dst := some 6, op := Go.Op.call { callee := Go.Callee.value (Go.Operand.func 80), args := #[Go.Operand.tmp 5], argTypes := #[24] }, type := 9, pos := "ref.go:122", after := #[{ on := 1, ground := Go.Ground.data }], guard := none }) rfl (fun K hK => ?_) (AllReadyH.cons (o := { dst := some 3, op := Go.Op.alloc 23, type := 0, pos := "ref.go:122", after := #[], guard := none }) rfl (fun K hK => ?_) AllReadyH.nil)
  · go_simp
    refine (rupto_v (sub l 0 100) _ _ (rd_head (Ha.out.keep (stp_drew (Stp.refl w1))) (by have := H512.out; omega)) (by rw [sub_length (by have := H512.out; omega)]; omega)).mono ?_
    rintro e wx ⟨rfl, hs⟩
    have T1 := Lib.hid (Stp.trans (stp_drew (Stp.refl w1)) hs)
    clear hs
    go_wp2_with fail
    refine hK.out _ _ (Key.out _ (T1.out)) (fun hHeld2 => ?_)
    clear hK K hHeld
    have hHeld := hHeld2
    clear hHeld2
    try simp only [Act.put, List.setIfInBounds_toArray, List.set_cons_zero, List.set_cons_succ]
    refine wpAnyH_ready (rs := [5, 10]) (by kernel_rfl) (by simp) ?_
    refine AllReadyH.cons (o := { dst := some 9, op := Go.Op.call { callee := Go.Callee.value (Go.Operand.func 80), args := #[Go.Operand.tmp 8], argTypes := #[24] }, type := 9, pos := "ref.go:122", after := #[{ on := 4, ground := Go.Ground.data }, { on := 2, ground := Go.Ground.chain }], guard := none }) rfl (fun K hK => ?_) (AllReadyH.cons (o := { dst := some 3, op := Go.Op.alloc 23, type := 0, pos := "ref.go:122", after := #[], guard := none }) rfl (fun K hK => ?_) AllReadyH.nil)
    · go_simp
      refine (rupto_v (sub l 157 100) _ _ (rd_sub (Ha.out.keep (T1.out)) (i := 157) (n := 100) (by have := H512.out; omega)) (by rw [sub_length (by have := H512.out; omega)]; omega)).mono ?_
      rintro e wy ⟨rfl, hs⟩
      have T2 := Lib.hid (Stp.trans (T1.out) hs)
      clear hs
      go_wp2_with fail
      refine hK.out _ _ (Key.out _ (T2.out)) (fun hHeld2 => ?_)
      clear hK K hHeld
      have hHeld := hHeld2
      clear hHeld2
      try simp only [Act.put, List.setIfInBounds_toArray, List.set_cons_zero, List.set_cons_succ]
      refine wpAnyH_take (i := 9) (oi := { dst := some 13, op := Go.Op.build 23 #[(0, Go.Operand.tmp 6), (2, Go.Operand.tmp 9), (8, Go.Operand.tmp 12)], type := 23, pos := "ref.go:122", after := #[{ on := 2, ground := Go.Ground.data }, { on := 5, ground := Go.Ground.data }, { on := 8, ground := Go.Ground.data }], guard := none }) (v := ?v9p) rfl (by kernel_rfl) (by kernel_rfl) (by kernel_rfl) (fun _ _ _ h => h) (Or.inl ⟨by rfl, ?hy9p⟩) (by assumption) ?rest9p
      case hy9p => (intro w hSw; (try dsimp only at hSw); go_simp; try with_reducible rfl)
      try simp only [Act.put, List.setIfInBounds_toArray, List.set_cons_zero, List.set_cons_succ]
      refine wpAnyH_ready (rs := [10]) (by kernel_rfl) (by simp) ?_
      refine AllReadyH.cons (o := { dst := some 3, op := Go.Op.alloc 23, type := 0, pos := "ref.go:122", after := #[], guard := none }) rfl (fun K hK => ?_) AllReadyH.nil
      go_simp
      have hb : Blk (wy.alloc (.cells (hcells zeroH) 23)) wy.heap.size 23 (hcells zeroH) := Blk.new wy 23 (hcells zeroH)
      have ta : Stp w1 (wy.alloc (.cells (hcells zeroH) 23)) := Stp.alloc (T2.out) _
      have hlb : wy.heap.size < (wy.alloc (.cells (hcells zeroH) 23)).heap.size := by simp
      refine hK.out _ (wy.alloc (.cells (hcells zeroH) 23)) (Key.out _ (ta)) (fun hHeld2 => ?_)
      clear hK K hHeld
      have hHeld := hHeld2
      clear hHeld2
      try simp only [Act.put, List.setIfInBounds_toArray, List.set_cons_zero, List.set_cons_succ]
      generalize wy.alloc (.cells (hcells zeroH) 23) = wa at hb ta hlb hHeld ⊢
      obtain ⟨hb0, hq⟩ : ∃ x, wy.heap.size = x := ⟨_, rfl⟩
      have hhb : w1.heap.size ≤ hb0 := by rw [← hq]; exact (T2.out).size
      rw [hq] at hb hlb ⊢
      clear hq
      have Hb := Lib.hid hb
      have Ta := Lib.hid ta
      clear hb ta
      refine wpAnyH_ready (rs := [11]) (by kernel_rfl) (by simp) ?_
      refine AllReadyH.cons (o := { dst := none, op := Go.Op.store 23 (Go.Operand.tmp 3) (Go.Operand.tmp 13), type := 0, pos := "ref.go:122", after := #[{ on := 10, ground := Go.Ground.data }, { on := 9, ground := Go.Ground.data }, { on := 5, ground := Go.Ground.chain }, { on := 0, ground := Go.Ground.phase }, { on := 1, ground := Go.Ground.phase }, { on := 2, ground := Go.Ground.phase }, { on := 3, ground := Go.Ground.phase }, { on := 4, ground := Go.Ground.phase }, { on := 5, ground := Go.Ground.phase }, { on := 6, ground := Go.Ground.phase }, { on := 7, ground := Go.Ground.phase }, { on := 8, ground := Go.Ground.phase }, { on := 9, ground := Go.Ground.phase }, { on := 10, ground := Go.Ground.phase }], guard := none }) rfl (fun K hK => ?_) AllReadyH.nil
      obtain ⟨⟨z0, z1, z2, z3, z4, z5, z6, z7, z8, z9, z10⟩, ⟨y0, y1, y2, y3, y4, y5, y6, y7, y8, y9, y10⟩⟩ := zy Hb.out
      go_simp
      (try go_wp2_with fail)
      have hf := fill_blk (gR l t false 0) Hb.out
      have hst := fill_stp (g := hb0) (gR l t false 0) Ta.out (by omega)
      clear z0 z1 z2 z3 z4 z5 z6 z7 z8 z9 z10 y0 y1 y2 y3 y4 y5 y6 y7 y8 y9 y10
      refine hK.out _ (fillW wa hb0 (gR l t false 0)) (Key.out _ hst) (fun hHeld2 => ?_)
      have Hz := Lib.hid (Hz1.out.keep hst Hz1.out.lt)
      clear hK K hHeld hHeld2 Hb
      generalize fillW wa hb0 (gR l t false 0) = W0 at hf hst Hz ⊢
      have Hb := Lib.hid hf
      have HT := Lib.hid hst
      clear hf hst
      try simp only [Act.put, List.setIfInBounds_toArray, List.set_cons_zero, List.set_cons_succ]
      refine wpAnyH_done (by kernel_rfl) ?_ _
      have hne : gz ≠ hb0 := by omega
      have hs2 := Hs2.out
      have hs3 := Hs3.out
      have hs4 := Hs4.out
      have hs5 := Hs5.out
      have hs6 := Hs6.out
      have hs7 := Hs7.out
      have hs8 := Hs8.out
      have hs9 := Hs9.out
      by_cases h77 : t = 77
      · have g77 : ((t.toNat : Int) == 77) = true := by rw [is77]; exact decide_eq_true h77
        have H77 := Lib.hid h77
        clear h77
        have Hb := Lib.hid (show Blk W0 hb0 23 (hcells (gR l t true 0)) from Hb.out)
        go_wp2_with (first
          | (go_at_call 81; (with_reducible refine (rget_s (sub l 100 8) _ _ (rd_sub (Ha.out.keep HT.out) (i := 100) (n := 8) (by have := H512.out; omega)) (by rw [sub_length (by have := H512.out; omega)]; omega)).mono ?_); rintro e w' ⟨rfl, hs⟩; replace Hb := Lib.hid (Hb.out.keep hs Hb.out.lt); replace HT := Lib.hid (Stp.trans HT.out hs); replace Hz := Lib.hid (Hz.out.keep hs Hz.out.lt); clear hs; obtain ⟨x0, x1, x2, x3, x4, x5, x6, x7, x8, x9, x10⟩ := hd_cells Hb.out; replace x8 : w'.cell? ⟨hb0, 8, none⟩ = some (.int .u8 (t.toNat : Int)) := x8; have yf := Hb.out.free 3)
          | (go_at_call 81; replace Hb := Lib.hid (gR_0 Hb.out); replace HT := Lib.hid (set_stp HT.out hhb 3 (.int .i64 (getV (sub l 100 8)))); replace Hz := Lib.hid (Hz.out.far (p := ⟨hb0, 3, none⟩) hne (.int .i64 (getV (sub l 100 8)))); clear x0 x1 x2 x3 x4 x5 x6 x7 x8 x9 x10 yf; (with_reducible refine (rget_s (sub l 108 8) _ _ (rd_sub (Ha.out.keep HT.out) (i := 108) (n := 8) (by have := H512.out; omega)) (by rw [sub_length (by have := H512.out; omega)]; omega)).mono ?_); rintro e w' ⟨rfl, hs⟩; replace Hb := Lib.hid (Hb.out.keep hs Hb.out.lt); replace HT := Lib.hid (Stp.trans HT.out hs); replace Hz := Lib.hid (Hz.out.keep hs Hz.out.lt); clear hs; obtain ⟨x0, x1, x2, x3, x4, x5, x6, x7, x8, x9, x10⟩ := hd_cells Hb.out; replace x8 : w'.cell? ⟨hb0, 8, none⟩ = some (.int .u8 (t.toNat : Int)) := x8; have yf := Hb.out.free 4)
          | (go_at_call 81; replace Hb := Lib.hid (gR_1 Hb.out); replace HT := Lib.hid (set_stp HT.out hhb 4 (.int .i64 (getV (sub l 108 8)))); replace Hz := Lib.hid (Hz.out.far (p := ⟨hb0, 4, none⟩) hne (.int .i64 (getV (sub l 108 8)))); clear x0 x1 x2 x3 x4 x5 x6 x7 x8 x9 x10 yf; (with_reducible refine (rget_s (sub l 116 8) _ _ (rd_sub (Ha.out.keep HT.out) (i := 116) (n := 8) (by have := H512.out; omega)) (by rw [sub_length (by have := H512.out; omega)]; omega)).mono ?_); rintro e w' ⟨rfl, hs⟩; replace Hb := Lib.hid (Hb.out.keep hs Hb.out.lt); replace HT := Lib.hid (Stp.trans HT.out hs); replace Hz := Lib.hid (Hz.out.keep hs Hz.out.lt); clear hs; obtain ⟨x0, x1, x2, x3, x4, x5, x6, x7, x8, x9, x10⟩ := hd_cells Hb.out; replace x8 : w'.cell? ⟨hb0, 8, none⟩ = some (.int .u8 (t.toNat : Int)) := x8; have yf := Hb.out.free 5)
          | (go_at_call 81; replace Hb := Lib.hid (gR_2 Hb.out); replace HT := Lib.hid (set_stp HT.out hhb 5 (.int .i64 (getV (sub l 116 8)))); replace Hz := Lib.hid (Hz.out.far (p := ⟨hb0, 5, none⟩) hne (.int .i64 (getV (sub l 116 8)))); clear x0 x1 x2 x3 x4 x5 x6 x7 x8 x9 x10 yf; (with_reducible refine (rget_s (sub l 124 12) _ _ (rd_sub (Ha.out.keep HT.out) (i := 124) (n := 12) (by have := H512.out; omega)) (by rw [sub_length (by have := H512.out; omega)]; omega)).mono ?_); rintro e w' ⟨rfl, hs⟩; replace Hb := Lib.hid (Hb.out.keep hs Hb.out.lt); replace HT := Lib.hid (Stp.trans HT.out hs); replace Hz := Lib.hid (Hz.out.keep hs Hz.out.lt); clear hs; obtain ⟨x0, x1, x2, x3, x4, x5, x6, x7, x8, x9, x10⟩ := hd_cells Hb.out; replace x8 : w'.cell? ⟨hb0, 8, none⟩ = some (.int .u8 (t.toNat : Int)) := x8; have yf := Hb.out.free 6)
          | (go_at_call 81; replace Hb := Lib.hid (gR_3 Hb.out); replace HT := Lib.hid (set_stp HT.out hhb 6 (.int .i64 (getV (sub l 124 12)))); replace Hz := Lib.hid (Hz.out.far (p := ⟨hb0, 6, none⟩) hne (.int .i64 (getV (sub l 124 12)))); clear x0 x1 x2 x3 x4 x5 x6 x7 x8 x9 x10 yf; (with_reducible refine (rget_s (sub l 136 12) _ _ (rd_sub (Ha.out.keep HT.out) (i := 136) (n := 12) (by have := H512.out; omega)) (by rw [sub_length (by have := H512.out; omega)]; omega)).mono ?_); rintro e w' ⟨rfl, hs⟩; replace Hb := Lib.hid (Hb.out.keep hs Hb.out.lt); replace HT := Lib.hid (Stp.trans HT.out hs); replace Hz := Lib.hid (Hz.out.keep hs Hz.out.lt); clear hs; obtain ⟨x0, x1, x2, x3, x4, x5, x6, x7, x8, x9, x10⟩ := hd_cells Hb.out; replace x8 : w'.cell? ⟨hb0, 8, none⟩ = some (.int .u8 (t.toNat : Int)) := x8; have yf := Hb.out.free 7)
          | (go_at_call 81; replace Hb := Lib.hid (gR_4 Hb.out); replace HT := Lib.hid (set_stp HT.out hhb 7 (.int .i64 (getV (sub l 136 12)))); replace Hz := Lib.hid (Hz.out.far (p := ⟨hb0, 7, none⟩) hne (.int .i64 (getV (sub l 136 12)))); clear x0 x1 x2 x3 x4 x5 x6 x7 x8 x9 x10 yf; (with_reducible refine (rget_s (sub l 369 12) _ _ (rd_sub (Ha.out.keep HT.out) (i := 369) (n := 12) (by have := H512.out; omega)) (by rw [sub_length (by have := H512.out; omega)]; omega)).mono ?_); rintro e w' ⟨rfl, hs⟩; replace Hb := Lib.hid (Hb.out.keep hs Hb.out.lt); replace HT := Lib.hid (Stp.trans HT.out hs); replace Hz := Lib.hid (Hz.out.keep hs Hz.out.lt); clear hs; obtain ⟨x0, x1, x2, x3, x4, x5, x6, x7, x8, x9, x10⟩ := hd_cells Hb.out; replace x8 : w'.cell? ⟨hb0, 8, none⟩ = some (.int .u8 (t.toNat : Int)) := x8; have yf := Hb.out.free 9)
          | (go_at_call 81; replace Hb := Lib.hid (gR_5m Hb.out); replace HT := Lib.hid (set_stp HT.out hhb 9 (.int .i64 (getV (sub l 369 12)))); replace Hz := Lib.hid (Hz.out.far (p := ⟨hb0, 9, none⟩) hne (.int .i64 (getV (sub l 369 12)))); clear x0 x1 x2 x3 x4 x5 x6 x7 x8 x9 x10 yf; (with_reducible refine (rget_s (sub l 483 12) _ _ (rd_sub (Ha.out.keep HT.out) (i := 483) (n := 12) (by have := H512.out; omega)) (by rw [sub_length (by have := H512.out; omega)]; omega)).mono ?_); rintro e w' ⟨rfl, hs⟩; replace Hb := Lib.hid (Hb.out.keep hs Hb.out.lt); replace HT := Lib.hid (Stp.trans HT.out hs); replace Hz := Lib.hid (Hz.out.keep hs Hz.out.lt); clear hs; obtain ⟨-, -, -, -, -, -, -, -, -, -, x10⟩ := hd_cells Hb.out; obtain ⟨x0, x1, x2, x3, x4, x5, x6, x7, x8, x9, hre⟩ := fin_m Hb.out (Hend.out.1 H77.out); rw [hre]; clear hre; have yf := Hb.out.free 10; obtain ⟨⟨z0, z1, z2, z3, z4, z5, z6, z7, z8, z9, z10⟩, ⟨y0, y1, y2, y3, y4, y5, y6, y7, y8, y9, y10⟩⟩ := zy Hz.out))
        have hz9 := Hz.out.far (p := ⟨hb0, 10, none⟩) hne (.int .i64 H.real)
        have hf := fill_blk H hz9
        have hst := fill_stp (g := gz) H (Stp.trans H1.out (set_stp HT.out hhb 10 (.int .i64 H.real))) (by omega)
        change bodyPost _ _ _ _ _ (fillW (w'.setCell ⟨hb0, 10, none⟩ (.int .i64 H.real)) gz H)
        generalize fillW (w'.setCell ⟨hb0, 10, none⟩ (.int .i64 H.real)) gz H = W at hf hst ⊢
        clear x0 x1 x2 x3 x4 x5 x6 x7 x8 x9 x10 yf z0 z1 z2 z3 z4 z5 z6 z7 z8 z9 z10 y0 y1 y2 y3 y4 y5 y6 y7 y8 y9 y10 g77 hs1 hs0
        obtain ⟨p0, p1, p2, p3, p4, p5, p6, p7, p8, p9, p10⟩ := hd_cells hf
        refine bodyPost_ret (v := hv H) (by simp [results, Try.results53, go_sem, *]) rfl ⟨rfl, hst⟩
      · have g77 : ((t.toNat : Int) == 77) = false := by rw [is77]; exact decide_eq_false h77
        have H77 := Lib.hid h77
        clear h77
        have Hb := Lib.hid (show Blk W0 hb0 23 (hcells (gR l t false 0)) from Hb.out)
        go_wp2_with (first
          | (go_at_call 81; (with_reducible refine (rget_s (sub l 100 8) _ _ (rd_sub (Ha.out.keep HT.out) (i := 100) (n := 8) (by have := H512.out; omega)) (by rw [sub_length (by have := H512.out; omega)]; omega)).mono ?_); rintro e w' ⟨rfl, hs⟩; replace Hb := Lib.hid (Hb.out.keep hs Hb.out.lt); replace HT := Lib.hid (Stp.trans HT.out hs); replace Hz := Lib.hid (Hz.out.keep hs Hz.out.lt); clear hs; obtain ⟨x0, x1, x2, x3, x4, x5, x6, x7, x8, x9, x10⟩ := hd_cells Hb.out; replace x8 : w'.cell? ⟨hb0, 8, none⟩ = some (.int .u8 (t.toNat : Int)) := x8; have yf := Hb.out.free 3)
          | (go_at_call 81; replace Hb := Lib.hid (gR_0 Hb.out); replace HT := Lib.hid (set_stp HT.out hhb 3 (.int .i64 (getV (sub l 100 8)))); replace Hz := Lib.hid (Hz.out.far (p := ⟨hb0, 3, none⟩) hne (.int .i64 (getV (sub l 100 8)))); clear x0 x1 x2 x3 x4 x5 x6 x7 x8 x9 x10 yf; (with_reducible refine (rget_s (sub l 108 8) _ _ (rd_sub (Ha.out.keep HT.out) (i := 108) (n := 8) (by have := H512.out; omega)) (by rw [sub_length (by have := H512.out; omega)]; omega)).mono ?_); rintro e w' ⟨rfl, hs⟩; replace Hb := Lib.hid (Hb.out.keep hs Hb.out.lt); replace HT := Lib.hid (Stp.trans HT.out hs); replace Hz := Lib.hid (Hz.out.keep hs Hz.out.lt); clear hs; obtain ⟨x0, x1, x2, x3, x4, x5, x6, x7, x8, x9, x10⟩ := hd_cells Hb.out; replace x8 : w'.cell? ⟨hb0, 8, none⟩ = some (.int .u8 (t.toNat : Int)) := x8; have yf := Hb.out.free 4)
          | (go_at_call 81; replace Hb := Lib.hid (gR_1 Hb.out); replace HT := Lib.hid (set_stp HT.out hhb 4 (.int .i64 (getV (sub l 108 8)))); replace Hz := Lib.hid (Hz.out.far (p := ⟨hb0, 4, none⟩) hne (.int .i64 (getV (sub l 108 8)))); clear x0 x1 x2 x3 x4 x5 x6 x7 x8 x9 x10 yf; (with_reducible refine (rget_s (sub l 116 8) _ _ (rd_sub (Ha.out.keep HT.out) (i := 116) (n := 8) (by have := H512.out; omega)) (by rw [sub_length (by have := H512.out; omega)]; omega)).mono ?_); rintro e w' ⟨rfl, hs⟩; replace Hb := Lib.hid (Hb.out.keep hs Hb.out.lt); replace HT := Lib.hid (Stp.trans HT.out hs); replace Hz := Lib.hid (Hz.out.keep hs Hz.out.lt); clear hs; obtain ⟨x0, x1, x2, x3, x4, x5, x6, x7, x8, x9, x10⟩ := hd_cells Hb.out; replace x8 : w'.cell? ⟨hb0, 8, none⟩ = some (.int .u8 (t.toNat : Int)) := x8; have yf := Hb.out.free 5)
          | (go_at_call 81; replace Hb := Lib.hid (gR_2 Hb.out); replace HT := Lib.hid (set_stp HT.out hhb 5 (.int .i64 (getV (sub l 116 8)))); replace Hz := Lib.hid (Hz.out.far (p := ⟨hb0, 5, none⟩) hne (.int .i64 (getV (sub l 116 8)))); clear x0 x1 x2 x3 x4 x5 x6 x7 x8 x9 x10 yf; (with_reducible refine (rget_s (sub l 124 12) _ _ (rd_sub (Ha.out.keep HT.out) (i := 124) (n := 12) (by have := H512.out; omega)) (by rw [sub_length (by have := H512.out; omega)]; omega)).mono ?_); rintro e w' ⟨rfl, hs⟩; replace Hb := Lib.hid (Hb.out.keep hs Hb.out.lt); replace HT := Lib.hid (Stp.trans HT.out hs); replace Hz := Lib.hid (Hz.out.keep hs Hz.out.lt); clear hs; obtain ⟨x0, x1, x2, x3, x4, x5, x6, x7, x8, x9, x10⟩ := hd_cells Hb.out; replace x8 : w'.cell? ⟨hb0, 8, none⟩ = some (.int .u8 (t.toNat : Int)) := x8; have yf := Hb.out.free 6)
          | (go_at_call 81; replace Hb := Lib.hid (gR_3 Hb.out); replace HT := Lib.hid (set_stp HT.out hhb 6 (.int .i64 (getV (sub l 124 12)))); replace Hz := Lib.hid (Hz.out.far (p := ⟨hb0, 6, none⟩) hne (.int .i64 (getV (sub l 124 12)))); clear x0 x1 x2 x3 x4 x5 x6 x7 x8 x9 x10 yf; (with_reducible refine (rget_s (sub l 136 12) _ _ (rd_sub (Ha.out.keep HT.out) (i := 136) (n := 12) (by have := H512.out; omega)) (by rw [sub_length (by have := H512.out; omega)]; omega)).mono ?_); rintro e w' ⟨rfl, hs⟩; replace Hb := Lib.hid (Hb.out.keep hs Hb.out.lt); replace HT := Lib.hid (Stp.trans HT.out hs); replace Hz := Lib.hid (Hz.out.keep hs Hz.out.lt); clear hs; obtain ⟨x0, x1, x2, x3, x4, x5, x6, x7, x8, x9, x10⟩ := hd_cells Hb.out; replace x8 : w'.cell? ⟨hb0, 8, none⟩ = some (.int .u8 (t.toNat : Int)) := x8; have yf := Hb.out.free 7)
          | (go_at_call 80; replace Hb := Lib.hid (gR_4 Hb.out); replace HT := Lib.hid (set_stp HT.out hhb 7 (.int .i64 (getV (sub l 136 12)))); replace Hz := Lib.hid (Hz.out.far (p := ⟨hb0, 7, none⟩) hne (.int .i64 (getV (sub l 136 12)))); clear x0 x1 x2 x3 x4 x5 x6 x7 x8 x9 x10 yf; (with_reducible refine (rupto_v (sub l 345 155) _ _ (rd_sub (Ha.out.keep HT.out) (i := 345) (n := 155) (by have := H512.out; omega)) (by rw [sub_length (by have := H512.out; omega)]; omega)).mono ?_); rintro e w' ⟨rfl, hs⟩; replace Hb := Lib.hid (Hb.out.keep hs Hb.out.lt); replace HT := Lib.hid (Stp.trans HT.out hs); replace Hz := Lib.hid (Hz.out.keep hs Hz.out.lt); clear hs; obtain ⟨-, x1, -, -, -, -, -, -, -, -, -⟩ := hd_cells Hb.out; obtain ⟨x0, x2, x3, x4, x5, x6, x7, x8, x9, x10, hre⟩ := fin_n Hb.out (Hend.out.2 H77.out); rw [hre]; clear hre; have yf := Hb.out.free 1; obtain ⟨⟨z0, z1, z2, z3, z4, z5, z6, z7, z8, z9, z10⟩, ⟨y0, y1, y2, y3, y4, y5, y6, y7, y8, y9, y10⟩⟩ := zy Hz.out))
        have hz9 := Hz.out.far (p := ⟨hb0, 1, none⟩) hne (.string ⟨H.pre.toArray⟩)
        have hf := fill_blk H hz9
        have hst := fill_stp (g := gz) H (Stp.trans H1.out (set_stp HT.out hhb 1 (.string ⟨H.pre.toArray⟩))) (by omega)
        change bodyPost _ _ _ _ _ (fillW (w'.setCell ⟨hb0, 1, none⟩ (.string ⟨H.pre.toArray⟩)) gz H)
        generalize fillW (w'.setCell ⟨hb0, 1, none⟩ (.string ⟨H.pre.toArray⟩)) gz H = W at hf hst ⊢
        clear x0 x1 x2 x3 x4 x5 x6 x7 x8 x9 x10 yf z0 z1 z2 z3 z4 z5 z6 z7 z8 z9 z10 y0 y1 y2 y3 y4 y5 y6 y7 y8 y9 y10 g77 hs1 hs0
        obtain ⟨p0, p1, p2, p3, p4, p5, p6, p7, p8, p9, p10⟩ := hd_cells hf
        refine bodyPost_ret (v := hv H) (by simp [results, Try.results53, go_sem, *]) rfl ⟨rfl, hst⟩
    · go_simp
      have hb : Blk (wx.alloc (.cells (hcells zeroH) 23)) wx.heap.size 23 (hcells zeroH) := Blk.new wx 23 (hcells zeroH)
      have ta : Stp w1 (wx.alloc (.cells (hcells zeroH) 23)) := Stp.alloc (T1.out) _
      have hlb : wx.heap.size < (wx.alloc (.cells (hcells zeroH) 23)).heap.size := by simp
      refine hK.out _ (wx.alloc (.cells (hcells zeroH) 23)) (Key.out _ (ta)) (fun hHeld2 => ?_)
      clear hK K hHeld
      have hHeld := hHeld2
      clear hHeld2
      try simp only [Act.put, List.setIfInBounds_toArray, List.set_cons_zero, List.set_cons_succ]
      generalize wx.alloc (.cells (hcells zeroH) 23) = wa at hb ta hlb hHeld ⊢
      obtain ⟨hb0, hq⟩ : ∃ x, wx.heap.size = x := ⟨_, rfl⟩
      have hhb : w1.heap.size ≤ hb0 := by rw [← hq]; exact (T1.out).size
      rw [hq] at hb hlb ⊢
      clear hq
      have Hb := Lib.hid hb
      have Ta := Lib.hid ta
      clear hb ta
      refine wpAnyH_ready (rs := [5]) (by kernel_rfl) (by simp) ?_
      refine AllReadyH.cons (o := { dst := some 9, op := Go.Op.call { callee := Go.Callee.value (Go.Operand.func 80), args := #[Go.Operand.tmp 8], argTypes := #[24] }, type := 9, pos := "ref.go:122", after := #[{ on := 4, ground := Go.Ground.data }, { on := 2, ground := Go.Ground.chain }], guard := none }) rfl (fun K hK => ?_) AllReadyH.nil
      go_simp
      refine (rupto_v (sub l 157 100) _ _ (rd_sub (Ha.out.keep (Ta.out)) (i := 157) (n := 100) (by have := H512.out; omega)) (by rw [sub_length (by have := H512.out; omega)]; omega)).mono ?_
      rintro e wz ⟨rfl, hs⟩
      have T2 := Lib.hid (Stp.trans (Ta.out) hs)
      replace Hb := Lib.hid (Hb.out.keep hs Hb.out.lt)
      clear hs
      go_wp2_with fail
      refine hK.out _ _ (Key.out _ (T2.out)) (fun hHeld2 => ?_)
      clear hK K hHeld
      have hHeld := hHeld2
      clear hHeld2
      try simp only [Act.put, List.setIfInBounds_toArray, List.set_cons_zero, List.set_cons_succ]
      refine wpAnyH_take (i := 9) (oi := { dst := some 13, op := Go.Op.build 23 #[(0, Go.Operand.tmp 6), (2, Go.Operand.tmp 9), (8, Go.Operand.tmp 12)], type := 23, pos := "ref.go:122", after := #[{ on := 2, ground := Go.Ground.data }, { on := 5, ground := Go.Ground.data }, { on := 8, ground := Go.Ground.data }], guard := none }) (v := ?v9q) rfl (by kernel_rfl) (by kernel_rfl) (by kernel_rfl) (fun _ _ _ h => h) (Or.inl ⟨by rfl, ?hy9q⟩) (by assumption) ?rest9q
      case hy9q => (intro w hSw; (try dsimp only at hSw); go_simp; try with_reducible rfl)
      try simp only [Act.put, List.setIfInBounds_toArray, List.set_cons_zero, List.set_cons_succ]
      refine wpAnyH_ready (rs := [11]) (by kernel_rfl) (by simp) ?_
      refine AllReadyH.cons (o := { dst := none, op := Go.Op.store 23 (Go.Operand.tmp 3) (Go.Operand.tmp 13), type := 0, pos := "ref.go:122", after := #[{ on := 10, ground := Go.Ground.data }, { on := 9, ground := Go.Ground.data }, { on := 5, ground := Go.Ground.chain }, { on := 0, ground := Go.Ground.phase }, { on := 1, ground := Go.Ground.phase }, { on := 2, ground := Go.Ground.phase }, { on := 3, ground := Go.Ground.phase }, { on := 4, ground := Go.Ground.phase }, { on := 5, ground := Go.Ground.phase }, { on := 6, ground := Go.Ground.phase }, { on := 7, ground := Go.Ground.phase }, { on := 8, ground := Go.Ground.phase }, { on := 9, ground := Go.Ground.phase }, { on := 10, ground := Go.Ground.phase }], guard := none }) rfl (fun K hK => ?_) AllReadyH.nil
      obtain ⟨⟨z0, z1, z2, z3, z4, z5, z6, z7, z8, z9, z10⟩, ⟨y0, y1, y2, y3, y4, y5, y6, y7, y8, y9, y10⟩⟩ := zy Hb.out
      go_simp
      (try go_wp2_with fail)
      have hf := fill_blk (gR l t false 0) Hb.out
      have hst := fill_stp (g := hb0) (gR l t false 0) T2.out (by omega)
      clear z0 z1 z2 z3 z4 z5 z6 z7 z8 z9 z10 y0 y1 y2 y3 y4 y5 y6 y7 y8 y9 y10
      refine hK.out _ (fillW wz hb0 (gR l t false 0)) (Key.out _ hst) (fun hHeld2 => ?_)
      have Hz := Lib.hid (Hz1.out.keep hst Hz1.out.lt)
      clear hK K hHeld hHeld2 Hb
      generalize fillW wz hb0 (gR l t false 0) = W0 at hf hst Hz ⊢
      have Hb := Lib.hid hf
      have HT := Lib.hid hst
      clear hf hst
      try simp only [Act.put, List.setIfInBounds_toArray, List.set_cons_zero, List.set_cons_succ]
      refine wpAnyH_done (by kernel_rfl) ?_ _
      have hne : gz ≠ hb0 := by omega
      have hs2 := Hs2.out
      have hs3 := Hs3.out
      have hs4 := Hs4.out
      have hs5 := Hs5.out
      have hs6 := Hs6.out
      have hs7 := Hs7.out
      have hs8 := Hs8.out
      have hs9 := Hs9.out
      by_cases h77 : t = 77
      · have g77 : ((t.toNat : Int) == 77) = true := by rw [is77]; exact decide_eq_true h77
        have H77 := Lib.hid h77
        clear h77
        have Hb := Lib.hid (show Blk W0 hb0 23 (hcells (gR l t true 0)) from Hb.out)
        go_wp2_with (first
          | (go_at_call 81; (with_reducible refine (rget_s (sub l 100 8) _ _ (rd_sub (Ha.out.keep HT.out) (i := 100) (n := 8) (by have := H512.out; omega)) (by rw [sub_length (by have := H512.out; omega)]; omega)).mono ?_); rintro e w' ⟨rfl, hs⟩; replace Hb := Lib.hid (Hb.out.keep hs Hb.out.lt); replace HT := Lib.hid (Stp.trans HT.out hs); replace Hz := Lib.hid (Hz.out.keep hs Hz.out.lt); clear hs; obtain ⟨x0, x1, x2, x3, x4, x5, x6, x7, x8, x9, x10⟩ := hd_cells Hb.out; replace x8 : w'.cell? ⟨hb0, 8, none⟩ = some (.int .u8 (t.toNat : Int)) := x8; have yf := Hb.out.free 3)
          | (go_at_call 81; replace Hb := Lib.hid (gR_0 Hb.out); replace HT := Lib.hid (set_stp HT.out hhb 3 (.int .i64 (getV (sub l 100 8)))); replace Hz := Lib.hid (Hz.out.far (p := ⟨hb0, 3, none⟩) hne (.int .i64 (getV (sub l 100 8)))); clear x0 x1 x2 x3 x4 x5 x6 x7 x8 x9 x10 yf; (with_reducible refine (rget_s (sub l 108 8) _ _ (rd_sub (Ha.out.keep HT.out) (i := 108) (n := 8) (by have := H512.out; omega)) (by rw [sub_length (by have := H512.out; omega)]; omega)).mono ?_); rintro e w' ⟨rfl, hs⟩; replace Hb := Lib.hid (Hb.out.keep hs Hb.out.lt); replace HT := Lib.hid (Stp.trans HT.out hs); replace Hz := Lib.hid (Hz.out.keep hs Hz.out.lt); clear hs; obtain ⟨x0, x1, x2, x3, x4, x5, x6, x7, x8, x9, x10⟩ := hd_cells Hb.out; replace x8 : w'.cell? ⟨hb0, 8, none⟩ = some (.int .u8 (t.toNat : Int)) := x8; have yf := Hb.out.free 4)
          | (go_at_call 81; replace Hb := Lib.hid (gR_1 Hb.out); replace HT := Lib.hid (set_stp HT.out hhb 4 (.int .i64 (getV (sub l 108 8)))); replace Hz := Lib.hid (Hz.out.far (p := ⟨hb0, 4, none⟩) hne (.int .i64 (getV (sub l 108 8)))); clear x0 x1 x2 x3 x4 x5 x6 x7 x8 x9 x10 yf; (with_reducible refine (rget_s (sub l 116 8) _ _ (rd_sub (Ha.out.keep HT.out) (i := 116) (n := 8) (by have := H512.out; omega)) (by rw [sub_length (by have := H512.out; omega)]; omega)).mono ?_); rintro e w' ⟨rfl, hs⟩; replace Hb := Lib.hid (Hb.out.keep hs Hb.out.lt); replace HT := Lib.hid (Stp.trans HT.out hs); replace Hz := Lib.hid (Hz.out.keep hs Hz.out.lt); clear hs; obtain ⟨x0, x1, x2, x3, x4, x5, x6, x7, x8, x9, x10⟩ := hd_cells Hb.out; replace x8 : w'.cell? ⟨hb0, 8, none⟩ = some (.int .u8 (t.toNat : Int)) := x8; have yf := Hb.out.free 5)
          | (go_at_call 81; replace Hb := Lib.hid (gR_2 Hb.out); replace HT := Lib.hid (set_stp HT.out hhb 5 (.int .i64 (getV (sub l 116 8)))); replace Hz := Lib.hid (Hz.out.far (p := ⟨hb0, 5, none⟩) hne (.int .i64 (getV (sub l 116 8)))); clear x0 x1 x2 x3 x4 x5 x6 x7 x8 x9 x10 yf; (with_reducible refine (rget_s (sub l 124 12) _ _ (rd_sub (Ha.out.keep HT.out) (i := 124) (n := 12) (by have := H512.out; omega)) (by rw [sub_length (by have := H512.out; omega)]; omega)).mono ?_); rintro e w' ⟨rfl, hs⟩; replace Hb := Lib.hid (Hb.out.keep hs Hb.out.lt); replace HT := Lib.hid (Stp.trans HT.out hs); replace Hz := Lib.hid (Hz.out.keep hs Hz.out.lt); clear hs; obtain ⟨x0, x1, x2, x3, x4, x5, x6, x7, x8, x9, x10⟩ := hd_cells Hb.out; replace x8 : w'.cell? ⟨hb0, 8, none⟩ = some (.int .u8 (t.toNat : Int)) := x8; have yf := Hb.out.free 6)
          | (go_at_call 81; replace Hb := Lib.hid (gR_3 Hb.out); replace HT := Lib.hid (set_stp HT.out hhb 6 (.int .i64 (getV (sub l 124 12)))); replace Hz := Lib.hid (Hz.out.far (p := ⟨hb0, 6, none⟩) hne (.int .i64 (getV (sub l 124 12)))); clear x0 x1 x2 x3 x4 x5 x6 x7 x8 x9 x10 yf; (with_reducible refine (rget_s (sub l 136 12) _ _ (rd_sub (Ha.out.keep HT.out) (i := 136) (n := 12) (by have := H512.out; omega)) (by rw [sub_length (by have := H512.out; omega)]; omega)).mono ?_); rintro e w' ⟨rfl, hs⟩; replace Hb := Lib.hid (Hb.out.keep hs Hb.out.lt); replace HT := Lib.hid (Stp.trans HT.out hs); replace Hz := Lib.hid (Hz.out.keep hs Hz.out.lt); clear hs; obtain ⟨x0, x1, x2, x3, x4, x5, x6, x7, x8, x9, x10⟩ := hd_cells Hb.out; replace x8 : w'.cell? ⟨hb0, 8, none⟩ = some (.int .u8 (t.toNat : Int)) := x8; have yf := Hb.out.free 7)
          | (go_at_call 81; replace Hb := Lib.hid (gR_4 Hb.out); replace HT := Lib.hid (set_stp HT.out hhb 7 (.int .i64 (getV (sub l 136 12)))); replace Hz := Lib.hid (Hz.out.far (p := ⟨hb0, 7, none⟩) hne (.int .i64 (getV (sub l 136 12)))); clear x0 x1 x2 x3 x4 x5 x6 x7 x8 x9 x10 yf; (with_reducible refine (rget_s (sub l 369 12) _ _ (rd_sub (Ha.out.keep HT.out) (i := 369) (n := 12) (by have := H512.out; omega)) (by rw [sub_length (by have := H512.out; omega)]; omega)).mono ?_); rintro e w' ⟨rfl, hs⟩; replace Hb := Lib.hid (Hb.out.keep hs Hb.out.lt); replace HT := Lib.hid (Stp.trans HT.out hs); replace Hz := Lib.hid (Hz.out.keep hs Hz.out.lt); clear hs; obtain ⟨x0, x1, x2, x3, x4, x5, x6, x7, x8, x9, x10⟩ := hd_cells Hb.out; replace x8 : w'.cell? ⟨hb0, 8, none⟩ = some (.int .u8 (t.toNat : Int)) := x8; have yf := Hb.out.free 9)
          | (go_at_call 81; replace Hb := Lib.hid (gR_5m Hb.out); replace HT := Lib.hid (set_stp HT.out hhb 9 (.int .i64 (getV (sub l 369 12)))); replace Hz := Lib.hid (Hz.out.far (p := ⟨hb0, 9, none⟩) hne (.int .i64 (getV (sub l 369 12)))); clear x0 x1 x2 x3 x4 x5 x6 x7 x8 x9 x10 yf; (with_reducible refine (rget_s (sub l 483 12) _ _ (rd_sub (Ha.out.keep HT.out) (i := 483) (n := 12) (by have := H512.out; omega)) (by rw [sub_length (by have := H512.out; omega)]; omega)).mono ?_); rintro e w' ⟨rfl, hs⟩; replace Hb := Lib.hid (Hb.out.keep hs Hb.out.lt); replace HT := Lib.hid (Stp.trans HT.out hs); replace Hz := Lib.hid (Hz.out.keep hs Hz.out.lt); clear hs; obtain ⟨-, -, -, -, -, -, -, -, -, -, x10⟩ := hd_cells Hb.out; obtain ⟨x0, x1, x2, x3, x4, x5, x6, x7, x8, x9, hre⟩ := fin_m Hb.out (Hend.out.1 H77.out); rw [hre]; clear hre; have yf := Hb.out.free 10; obtain ⟨⟨z0, z1, z2, z3, z4, z5, z6, z7, z8, z9, z10⟩, ⟨y0, y1, y2, y3, y4, y5, y6, y7, y8, y9, y10⟩⟩ := zy Hz.out))
        have hz9 := Hz.out.far (p := ⟨hb0, 10, none⟩) hne (.int .i64 H.real)
        have hf := fill_blk H hz9
        have hst := fill_stp (g := gz) H (Stp.trans H1.out (set_stp HT.out hhb 10 (.int .i64 H.real))) (by omega)
        change bodyPost _ _ _ _ _ (fillW (w'.setCell ⟨hb0, 10, none⟩ (.int .i64 H.real)) gz H)
        generalize fillW (w'.setCell ⟨hb0, 10, none⟩ (.int .i64 H.real)) gz H = W at hf hst ⊢
        clear x0 x1 x2 x3 x4 x5 x6 x7 x8 x9 x10 yf z0 z1 z2 z3 z4 z5 z6 z7 z8 z9 z10 y0 y1 y2 y3 y4 y5 y6 y7 y8 y9 y10 g77 hs1 hs0
        obtain ⟨p0, p1, p2, p3, p4, p5, p6, p7, p8, p9, p10⟩ := hd_cells hf
        refine bodyPost_ret (v := hv H) (by simp [results, Try.results53, go_sem, *]) rfl ⟨rfl, hst⟩
      · have g77 : ((t.toNat : Int) == 77) = false := by rw [is77]; exact decide_eq_false h77
        have H77 := Lib.hid h77
        clear h77
        have Hb := Lib.hid (show Blk W0 hb0 23 (hcells (gR l t false 0)) from Hb.out)
        go_wp2_with (first
          | (go_at_call 81; (with_reducible refine (rget_s (sub l 100 8) _ _ (rd_sub (Ha.out.keep HT.out) (i := 100) (n := 8) (by have := H512.out; omega)) (by rw [sub_length (by have := H512.out; omega)]; omega)).mono ?_); rintro e w' ⟨rfl, hs⟩; replace Hb := Lib.hid (Hb.out.keep hs Hb.out.lt); replace HT := Lib.hid (Stp.trans HT.out hs); replace Hz := Lib.hid (Hz.out.keep hs Hz.out.lt); clear hs; obtain ⟨x0, x1, x2, x3, x4, x5, x6, x7, x8, x9, x10⟩ := hd_cells Hb.out; replace x8 : w'.cell? ⟨hb0, 8, none⟩ = some (.int .u8 (t.toNat : Int)) := x8; have yf := Hb.out.free 3)
          | (go_at_call 81; replace Hb := Lib.hid (gR_0 Hb.out); replace HT := Lib.hid (set_stp HT.out hhb 3 (.int .i64 (getV (sub l 100 8)))); replace Hz := Lib.hid (Hz.out.far (p := ⟨hb0, 3, none⟩) hne (.int .i64 (getV (sub l 100 8)))); clear x0 x1 x2 x3 x4 x5 x6 x7 x8 x9 x10 yf; (with_reducible refine (rget_s (sub l 108 8) _ _ (rd_sub (Ha.out.keep HT.out) (i := 108) (n := 8) (by have := H512.out; omega)) (by rw [sub_length (by have := H512.out; omega)]; omega)).mono ?_); rintro e w' ⟨rfl, hs⟩; replace Hb := Lib.hid (Hb.out.keep hs Hb.out.lt); replace HT := Lib.hid (Stp.trans HT.out hs); replace Hz := Lib.hid (Hz.out.keep hs Hz.out.lt); clear hs; obtain ⟨x0, x1, x2, x3, x4, x5, x6, x7, x8, x9, x10⟩ := hd_cells Hb.out; replace x8 : w'.cell? ⟨hb0, 8, none⟩ = some (.int .u8 (t.toNat : Int)) := x8; have yf := Hb.out.free 4)
          | (go_at_call 81; replace Hb := Lib.hid (gR_1 Hb.out); replace HT := Lib.hid (set_stp HT.out hhb 4 (.int .i64 (getV (sub l 108 8)))); replace Hz := Lib.hid (Hz.out.far (p := ⟨hb0, 4, none⟩) hne (.int .i64 (getV (sub l 108 8)))); clear x0 x1 x2 x3 x4 x5 x6 x7 x8 x9 x10 yf; (with_reducible refine (rget_s (sub l 116 8) _ _ (rd_sub (Ha.out.keep HT.out) (i := 116) (n := 8) (by have := H512.out; omega)) (by rw [sub_length (by have := H512.out; omega)]; omega)).mono ?_); rintro e w' ⟨rfl, hs⟩; replace Hb := Lib.hid (Hb.out.keep hs Hb.out.lt); replace HT := Lib.hid (Stp.trans HT.out hs); replace Hz := Lib.hid (Hz.out.keep hs Hz.out.lt); clear hs; obtain ⟨x0, x1, x2, x3, x4, x5, x6, x7, x8, x9, x10⟩ := hd_cells Hb.out; replace x8 : w'.cell? ⟨hb0, 8, none⟩ = some (.int .u8 (t.toNat : Int)) := x8; have yf := Hb.out.free 5)
          | (go_at_call 81; replace Hb := Lib.hid (gR_2 Hb.out); replace HT := Lib.hid (set_stp HT.out hhb 5 (.int .i64 (getV (sub l 116 8)))); replace Hz := Lib.hid (Hz.out.far (p := ⟨hb0, 5, none⟩) hne (.int .i64 (getV (sub l 116 8)))); clear x0 x1 x2 x3 x4 x5 x6 x7 x8 x9 x10 yf; (with_reducible refine (rget_s (sub l 124 12) _ _ (rd_sub (Ha.out.keep HT.out) (i := 124) (n := 12) (by have := H512.out; omega)) (by rw [sub_length (by have := H512.out; omega)]; omega)).mono ?_); rintro e w' ⟨rfl, hs⟩; replace Hb := Lib.hid (Hb.out.keep hs Hb.out.lt); replace HT := Lib.hid (Stp.trans HT.out hs); replace Hz := Lib.hid (Hz.out.keep hs Hz.out.lt); clear hs; obtain ⟨x0, x1, x2, x3, x4, x5, x6, x7, x8, x9, x10⟩ := hd_cells Hb.out; replace x8 : w'.cell? ⟨hb0, 8, none⟩ = some (.int .u8 (t.toNat : Int)) := x8; have yf := Hb.out.free 6)
          | (go_at_call 81; replace Hb := Lib.hid (gR_3 Hb.out); replace HT := Lib.hid (set_stp HT.out hhb 6 (.int .i64 (getV (sub l 124 12)))); replace Hz := Lib.hid (Hz.out.far (p := ⟨hb0, 6, none⟩) hne (.int .i64 (getV (sub l 124 12)))); clear x0 x1 x2 x3 x4 x5 x6 x7 x8 x9 x10 yf; (with_reducible refine (rget_s (sub l 136 12) _ _ (rd_sub (Ha.out.keep HT.out) (i := 136) (n := 12) (by have := H512.out; omega)) (by rw [sub_length (by have := H512.out; omega)]; omega)).mono ?_); rintro e w' ⟨rfl, hs⟩; replace Hb := Lib.hid (Hb.out.keep hs Hb.out.lt); replace HT := Lib.hid (Stp.trans HT.out hs); replace Hz := Lib.hid (Hz.out.keep hs Hz.out.lt); clear hs; obtain ⟨x0, x1, x2, x3, x4, x5, x6, x7, x8, x9, x10⟩ := hd_cells Hb.out; replace x8 : w'.cell? ⟨hb0, 8, none⟩ = some (.int .u8 (t.toNat : Int)) := x8; have yf := Hb.out.free 7)
          | (go_at_call 80; replace Hb := Lib.hid (gR_4 Hb.out); replace HT := Lib.hid (set_stp HT.out hhb 7 (.int .i64 (getV (sub l 136 12)))); replace Hz := Lib.hid (Hz.out.far (p := ⟨hb0, 7, none⟩) hne (.int .i64 (getV (sub l 136 12)))); clear x0 x1 x2 x3 x4 x5 x6 x7 x8 x9 x10 yf; (with_reducible refine (rupto_v (sub l 345 155) _ _ (rd_sub (Ha.out.keep HT.out) (i := 345) (n := 155) (by have := H512.out; omega)) (by rw [sub_length (by have := H512.out; omega)]; omega)).mono ?_); rintro e w' ⟨rfl, hs⟩; replace Hb := Lib.hid (Hb.out.keep hs Hb.out.lt); replace HT := Lib.hid (Stp.trans HT.out hs); replace Hz := Lib.hid (Hz.out.keep hs Hz.out.lt); clear hs; obtain ⟨-, x1, -, -, -, -, -, -, -, -, -⟩ := hd_cells Hb.out; obtain ⟨x0, x2, x3, x4, x5, x6, x7, x8, x9, x10, hre⟩ := fin_n Hb.out (Hend.out.2 H77.out); rw [hre]; clear hre; have yf := Hb.out.free 1; obtain ⟨⟨z0, z1, z2, z3, z4, z5, z6, z7, z8, z9, z10⟩, ⟨y0, y1, y2, y3, y4, y5, y6, y7, y8, y9, y10⟩⟩ := zy Hz.out))
        have hz9 := Hz.out.far (p := ⟨hb0, 1, none⟩) hne (.string ⟨H.pre.toArray⟩)
        have hf := fill_blk H hz9
        have hst := fill_stp (g := gz) H (Stp.trans H1.out (set_stp HT.out hhb 1 (.string ⟨H.pre.toArray⟩))) (by omega)
        change bodyPost _ _ _ _ _ (fillW (w'.setCell ⟨hb0, 1, none⟩ (.string ⟨H.pre.toArray⟩)) gz H)
        generalize fillW (w'.setCell ⟨hb0, 1, none⟩ (.string ⟨H.pre.toArray⟩)) gz H = W at hf hst ⊢
        clear x0 x1 x2 x3 x4 x5 x6 x7 x8 x9 x10 yf z0 z1 z2 z3 z4 z5 z6 z7 z8 z9 z10 y0 y1 y2 y3 y4 y5 y6 y7 y8 y9 y10 g77 hs1 hs0
        obtain ⟨p0, p1, p2, p3, p4, p5, p6, p7, p8, p9, p10⟩ := hd_cells hf
        refine bodyPost_ret (v := hv H) (by simp [results, Try.results53, go_sem, *]) rfl ⟨rfl, hst⟩
  · go_simp
    have hb : Blk (w1.drew.alloc (.cells (hcells zeroH) 23)) w1.heap.size 23 (hcells zeroH) := Blk.new w1.drew 23 (hcells zeroH)
    have ta : Stp w1 (w1.drew.alloc (.cells (hcells zeroH) 23)) := Stp.alloc (stp_drew (Stp.refl w1)) _
    have hlb : w1.heap.size < (w1.drew.alloc (.cells (hcells zeroH) 23)).heap.size := by simp
    refine hK.out _ (w1.drew.alloc (.cells (hcells zeroH) 23)) (Key.out _ (ta)) (fun hHeld2 => ?_)
    clear hK K hHeld
    have hHeld := hHeld2
    clear hHeld2
    try simp only [Act.put, List.setIfInBounds_toArray, List.set_cons_zero, List.set_cons_succ]
    generalize w1.drew.alloc (.cells (hcells zeroH) 23) = wa at hb ta hlb hHeld ⊢
    obtain ⟨hb0, hq⟩ : ∃ x, w1.heap.size = x := ⟨_, rfl⟩
    have hhb : w1.heap.size ≤ hb0 := by rw [← hq]; exact (stp_drew (Stp.refl w1)).size
    rw [hq] at hb hlb ⊢
    clear hq
    have Hb := Lib.hid hb
    have Ta := Lib.hid ta
    clear hb ta
    refine wpAnyH_ready (rs := [2]) (by kernel_rfl) (by simp) ?_
    refine AllReadyH.cons (o := { dst := some 6, op := Go.Op.call { callee := Go.Callee.value (Go.Operand.func 80), args := #[Go.Operand.tmp 5], argTypes := #[24] }, type := 9, pos := "ref.go:122", after := #[{ on := 1, ground := Go.Ground.data }], guard := none }) rfl (fun K hK => ?_) AllReadyH.nil
    go_simp
    refine (rupto_v (sub l 0 100) _ _ (rd_head (Ha.out.keep (Ta.out)) (by have := H512.out; omega)) (by rw [sub_length (by have := H512.out; omega)]; omega)).mono ?_
    rintro e wx ⟨rfl, hs⟩
    have T1 := Lib.hid (Stp.trans (Ta.out) hs)
    replace Hb := Lib.hid (Hb.out.keep hs Hb.out.lt)
    clear hs
    go_wp2_with fail
    refine hK.out _ _ (Key.out _ (T1.out)) (fun hHeld2 => ?_)
    clear hK K hHeld
    have hHeld := hHeld2
    clear hHeld2
    try simp only [Act.put, List.setIfInBounds_toArray, List.set_cons_zero, List.set_cons_succ]
    refine wpAnyH_ready (rs := [5]) (by kernel_rfl) (by simp) ?_
    refine AllReadyH.cons (o := { dst := some 9, op := Go.Op.call { callee := Go.Callee.value (Go.Operand.func 80), args := #[Go.Operand.tmp 8], argTypes := #[24] }, type := 9, pos := "ref.go:122", after := #[{ on := 4, ground := Go.Ground.data }, { on := 2, ground := Go.Ground.chain }], guard := none }) rfl (fun K hK => ?_) AllReadyH.nil
    go_simp
    refine (rupto_v (sub l 157 100) _ _ (rd_sub (Ha.out.keep (T1.out)) (i := 157) (n := 100) (by have := H512.out; omega)) (by rw [sub_length (by have := H512.out; omega)]; omega)).mono ?_
    rintro e wz ⟨rfl, hs⟩
    have T2 := Lib.hid (Stp.trans (T1.out) hs)
    replace Hb := Lib.hid (Hb.out.keep hs Hb.out.lt)
    clear hs
    go_wp2_with fail
    refine hK.out _ _ (Key.out _ (T2.out)) (fun hHeld2 => ?_)
    clear hK K hHeld
    have hHeld := hHeld2
    clear hHeld2
    try simp only [Act.put, List.setIfInBounds_toArray, List.set_cons_zero, List.set_cons_succ]
    refine wpAnyH_take (i := 9) (oi := { dst := some 13, op := Go.Op.build 23 #[(0, Go.Operand.tmp 6), (2, Go.Operand.tmp 9), (8, Go.Operand.tmp 12)], type := 23, pos := "ref.go:122", after := #[{ on := 2, ground := Go.Ground.data }, { on := 5, ground := Go.Ground.data }, { on := 8, ground := Go.Ground.data }], guard := none }) (v := ?v9r) rfl (by kernel_rfl) (by kernel_rfl) (by kernel_rfl) (fun _ _ _ h => h) (Or.inl ⟨by rfl, ?hy9r⟩) (by assumption) ?rest9r
    case hy9r => (intro w hSw; (try dsimp only at hSw); go_simp; try with_reducible rfl)
    try simp only [Act.put, List.setIfInBounds_toArray, List.set_cons_zero, List.set_cons_succ]
    refine wpAnyH_ready (rs := [11]) (by kernel_rfl) (by simp) ?_
    refine AllReadyH.cons (o := { dst := none, op := Go.Op.store 23 (Go.Operand.tmp 3) (Go.Operand.tmp 13), type := 0, pos := "ref.go:122", after := #[{ on := 10, ground := Go.Ground.data }, { on := 9, ground := Go.Ground.data }, { on := 5, ground := Go.Ground.chain }, { on := 0, ground := Go.Ground.phase }, { on := 1, ground := Go.Ground.phase }, { on := 2, ground := Go.Ground.phase }, { on := 3, ground := Go.Ground.phase }, { on := 4, ground := Go.Ground.phase }, { on := 5, ground := Go.Ground.phase }, { on := 6, ground := Go.Ground.phase }, { on := 7, ground := Go.Ground.phase }, { on := 8, ground := Go.Ground.phase }, { on := 9, ground := Go.Ground.phase }, { on := 10, ground := Go.Ground.phase }], guard := none }) rfl (fun K hK => ?_) AllReadyH.nil
    obtain ⟨⟨z0, z1, z2, z3, z4, z5, z6, z7, z8, z9, z10⟩, ⟨y0, y1, y2, y3, y4, y5, y6, y7, y8, y9, y10⟩⟩ := zy Hb.out
    go_simp
    (try go_wp2_with fail)
    have hf := fill_blk (gR l t false 0) Hb.out
    have hst := fill_stp (g := hb0) (gR l t false 0) T2.out (by omega)
    clear z0 z1 z2 z3 z4 z5 z6 z7 z8 z9 z10 y0 y1 y2 y3 y4 y5 y6 y7 y8 y9 y10
    refine hK.out _ (fillW wz hb0 (gR l t false 0)) (Key.out _ hst) (fun hHeld2 => ?_)
    have Hz := Lib.hid (Hz1.out.keep hst Hz1.out.lt)
    clear hK K hHeld hHeld2 Hb
    generalize fillW wz hb0 (gR l t false 0) = W0 at hf hst Hz ⊢
    have Hb := Lib.hid hf
    have HT := Lib.hid hst
    clear hf hst
    try simp only [Act.put, List.setIfInBounds_toArray, List.set_cons_zero, List.set_cons_succ]
    refine wpAnyH_done (by kernel_rfl) ?_ _
    have hne : gz ≠ hb0 := by omega
    have hs2 := Hs2.out
    have hs3 := Hs3.out
    have hs4 := Hs4.out
    have hs5 := Hs5.out
    have hs6 := Hs6.out
    have hs7 := Hs7.out
    have hs8 := Hs8.out
    have hs9 := Hs9.out
    by_cases h77 : t = 77
    · have g77 : ((t.toNat : Int) == 77) = true := by rw [is77]; exact decide_eq_true h77
      have H77 := Lib.hid h77
      clear h77
      have Hb := Lib.hid (show Blk W0 hb0 23 (hcells (gR l t true 0)) from Hb.out)
      go_wp2_with (first
        | (go_at_call 81; (with_reducible refine (rget_s (sub l 100 8) _ _ (rd_sub (Ha.out.keep HT.out) (i := 100) (n := 8) (by have := H512.out; omega)) (by rw [sub_length (by have := H512.out; omega)]; omega)).mono ?_); rintro e w' ⟨rfl, hs⟩; replace Hb := Lib.hid (Hb.out.keep hs Hb.out.lt); replace HT := Lib.hid (Stp.trans HT.out hs); replace Hz := Lib.hid (Hz.out.keep hs Hz.out.lt); clear hs; obtain ⟨x0, x1, x2, x3, x4, x5, x6, x7, x8, x9, x10⟩ := hd_cells Hb.out; replace x8 : w'.cell? ⟨hb0, 8, none⟩ = some (.int .u8 (t.toNat : Int)) := x8; have yf := Hb.out.free 3)
        | (go_at_call 81; replace Hb := Lib.hid (gR_0 Hb.out); replace HT := Lib.hid (set_stp HT.out hhb 3 (.int .i64 (getV (sub l 100 8)))); replace Hz := Lib.hid (Hz.out.far (p := ⟨hb0, 3, none⟩) hne (.int .i64 (getV (sub l 100 8)))); clear x0 x1 x2 x3 x4 x5 x6 x7 x8 x9 x10 yf; (with_reducible refine (rget_s (sub l 108 8) _ _ (rd_sub (Ha.out.keep HT.out) (i := 108) (n := 8) (by have := H512.out; omega)) (by rw [sub_length (by have := H512.out; omega)]; omega)).mono ?_); rintro e w' ⟨rfl, hs⟩; replace Hb := Lib.hid (Hb.out.keep hs Hb.out.lt); replace HT := Lib.hid (Stp.trans HT.out hs); replace Hz := Lib.hid (Hz.out.keep hs Hz.out.lt); clear hs; obtain ⟨x0, x1, x2, x3, x4, x5, x6, x7, x8, x9, x10⟩ := hd_cells Hb.out; replace x8 : w'.cell? ⟨hb0, 8, none⟩ = some (.int .u8 (t.toNat : Int)) := x8; have yf := Hb.out.free 4)
        | (go_at_call 81; replace Hb := Lib.hid (gR_1 Hb.out); replace HT := Lib.hid (set_stp HT.out hhb 4 (.int .i64 (getV (sub l 108 8)))); replace Hz := Lib.hid (Hz.out.far (p := ⟨hb0, 4, none⟩) hne (.int .i64 (getV (sub l 108 8)))); clear x0 x1 x2 x3 x4 x5 x6 x7 x8 x9 x10 yf; (with_reducible refine (rget_s (sub l 116 8) _ _ (rd_sub (Ha.out.keep HT.out) (i := 116) (n := 8) (by have := H512.out; omega)) (by rw [sub_length (by have := H512.out; omega)]; omega)).mono ?_); rintro e w' ⟨rfl, hs⟩; replace Hb := Lib.hid (Hb.out.keep hs Hb.out.lt); replace HT := Lib.hid (Stp.trans HT.out hs); replace Hz := Lib.hid (Hz.out.keep hs Hz.out.lt); clear hs; obtain ⟨x0, x1, x2, x3, x4, x5, x6, x7, x8, x9, x10⟩ := hd_cells Hb.out; replace x8 : w'.cell? ⟨hb0, 8, none⟩ = some (.int .u8 (t.toNat : Int)) := x8; have yf := Hb.out.free 5)
        | (go_at_call 81; replace Hb := Lib.hid (gR_2 Hb.out); replace HT := Lib.hid (set_stp HT.out hhb 5 (.int .i64 (getV (sub l 116 8)))); replace Hz := Lib.hid (Hz.out.far (p := ⟨hb0, 5, none⟩) hne (.int .i64 (getV (sub l 116 8)))); clear x0 x1 x2 x3 x4 x5 x6 x7 x8 x9 x10 yf; (with_reducible refine (rget_s (sub l 124 12) _ _ (rd_sub (Ha.out.keep HT.out) (i := 124) (n := 12) (by have := H512.out; omega)) (by rw [sub_length (by have := H512.out; omega)]; omega)).mono ?_); rintro e w' ⟨rfl, hs⟩; replace Hb := Lib.hid (Hb.out.keep hs Hb.out.lt); replace HT := Lib.hid (Stp.trans HT.out hs); replace Hz := Lib.hid (Hz.out.keep hs Hz.out.lt); clear hs; obtain ⟨x0, x1, x2, x3, x4, x5, x6, x7, x8, x9, x10⟩ := hd_cells Hb.out; replace x8 : w'.cell? ⟨hb0, 8, none⟩ = some (.int .u8 (t.toNat : Int)) := x8; have yf := Hb.out.free 6)
        | (go_at_call 81; replace Hb := Lib.hid (gR_3 Hb.out); replace HT := Lib.hid (set_stp HT.out hhb 6 (.int .i64 (getV (sub l 124 12)))); replace Hz := Lib.hid (Hz.out.far (p := ⟨hb0, 6, none⟩) hne (.int .i64 (getV (sub l 124 12)))); clear x0 x1 x2 x3 x4 x5 x6 x7 x8 x9 x10 yf; (with_reducible refine (rget_s (sub l 136 12) _ _ (rd_sub (Ha.out.keep HT.out) (i := 136) (n := 12) (by have := H512.out; omega)) (by rw [sub_length (by have := H512.out; omega)]; omega)).mono ?_); rintro e w' ⟨rfl, hs⟩; replace Hb := Lib.hid (Hb.out.keep hs Hb.out.lt); replace HT := Lib.hid (Stp.trans HT.out hs); replace Hz := Lib.hid (Hz.out.keep hs Hz.out.lt); clear hs; obtain ⟨x0, x1, x2, x3, x4, x5, x6, x7, x8, x9, x10⟩ := hd_cells Hb.out; replace x8 : w'.cell? ⟨hb0, 8, none⟩ = some (.int .u8 (t.toNat : Int)) := x8; have yf := Hb.out.free 7)
        | (go_at_call 81; replace Hb := Lib.hid (gR_4 Hb.out); replace HT := Lib.hid (set_stp HT.out hhb 7 (.int .i64 (getV (sub l 136 12)))); replace Hz := Lib.hid (Hz.out.far (p := ⟨hb0, 7, none⟩) hne (.int .i64 (getV (sub l 136 12)))); clear x0 x1 x2 x3 x4 x5 x6 x7 x8 x9 x10 yf; (with_reducible refine (rget_s (sub l 369 12) _ _ (rd_sub (Ha.out.keep HT.out) (i := 369) (n := 12) (by have := H512.out; omega)) (by rw [sub_length (by have := H512.out; omega)]; omega)).mono ?_); rintro e w' ⟨rfl, hs⟩; replace Hb := Lib.hid (Hb.out.keep hs Hb.out.lt); replace HT := Lib.hid (Stp.trans HT.out hs); replace Hz := Lib.hid (Hz.out.keep hs Hz.out.lt); clear hs; obtain ⟨x0, x1, x2, x3, x4, x5, x6, x7, x8, x9, x10⟩ := hd_cells Hb.out; replace x8 : w'.cell? ⟨hb0, 8, none⟩ = some (.int .u8 (t.toNat : Int)) := x8; have yf := Hb.out.free 9)
        | (go_at_call 81; replace Hb := Lib.hid (gR_5m Hb.out); replace HT := Lib.hid (set_stp HT.out hhb 9 (.int .i64 (getV (sub l 369 12)))); replace Hz := Lib.hid (Hz.out.far (p := ⟨hb0, 9, none⟩) hne (.int .i64 (getV (sub l 369 12)))); clear x0 x1 x2 x3 x4 x5 x6 x7 x8 x9 x10 yf; (with_reducible refine (rget_s (sub l 483 12) _ _ (rd_sub (Ha.out.keep HT.out) (i := 483) (n := 12) (by have := H512.out; omega)) (by rw [sub_length (by have := H512.out; omega)]; omega)).mono ?_); rintro e w' ⟨rfl, hs⟩; replace Hb := Lib.hid (Hb.out.keep hs Hb.out.lt); replace HT := Lib.hid (Stp.trans HT.out hs); replace Hz := Lib.hid (Hz.out.keep hs Hz.out.lt); clear hs; obtain ⟨-, -, -, -, -, -, -, -, -, -, x10⟩ := hd_cells Hb.out; obtain ⟨x0, x1, x2, x3, x4, x5, x6, x7, x8, x9, hre⟩ := fin_m Hb.out (Hend.out.1 H77.out); rw [hre]; clear hre; have yf := Hb.out.free 10; obtain ⟨⟨z0, z1, z2, z3, z4, z5, z6, z7, z8, z9, z10⟩, ⟨y0, y1, y2, y3, y4, y5, y6, y7, y8, y9, y10⟩⟩ := zy Hz.out))
      have hz9 := Hz.out.far (p := ⟨hb0, 10, none⟩) hne (.int .i64 H.real)
      have hf := fill_blk H hz9
      have hst := fill_stp (g := gz) H (Stp.trans H1.out (set_stp HT.out hhb 10 (.int .i64 H.real))) (by omega)
      change bodyPost _ _ _ _ _ (fillW (w'.setCell ⟨hb0, 10, none⟩ (.int .i64 H.real)) gz H)
      generalize fillW (w'.setCell ⟨hb0, 10, none⟩ (.int .i64 H.real)) gz H = W at hf hst ⊢
      clear x0 x1 x2 x3 x4 x5 x6 x7 x8 x9 x10 yf z0 z1 z2 z3 z4 z5 z6 z7 z8 z9 z10 y0 y1 y2 y3 y4 y5 y6 y7 y8 y9 y10 g77 hs1 hs0
      obtain ⟨p0, p1, p2, p3, p4, p5, p6, p7, p8, p9, p10⟩ := hd_cells hf
      refine bodyPost_ret (v := hv H) (by simp [results, Try.results53, go_sem, *]) rfl ⟨rfl, hst⟩
    · have g77 : ((t.toNat : Int) == 77) = false := by rw [is77]; exact decide_eq_false h77
      have H77 := Lib.hid h77
      clear h77
      have Hb := Lib.hid (show Blk W0 hb0 23 (hcells (gR l t false 0)) from Hb.out)
      go_wp2_with (first
        | (go_at_call 81; (with_reducible refine (rget_s (sub l 100 8) _ _ (rd_sub (Ha.out.keep HT.out) (i := 100) (n := 8) (by have := H512.out; omega)) (by rw [sub_length (by have := H512.out; omega)]; omega)).mono ?_); rintro e w' ⟨rfl, hs⟩; replace Hb := Lib.hid (Hb.out.keep hs Hb.out.lt); replace HT := Lib.hid (Stp.trans HT.out hs); replace Hz := Lib.hid (Hz.out.keep hs Hz.out.lt); clear hs; obtain ⟨x0, x1, x2, x3, x4, x5, x6, x7, x8, x9, x10⟩ := hd_cells Hb.out; replace x8 : w'.cell? ⟨hb0, 8, none⟩ = some (.int .u8 (t.toNat : Int)) := x8; have yf := Hb.out.free 3)
        | (go_at_call 81; replace Hb := Lib.hid (gR_0 Hb.out); replace HT := Lib.hid (set_stp HT.out hhb 3 (.int .i64 (getV (sub l 100 8)))); replace Hz := Lib.hid (Hz.out.far (p := ⟨hb0, 3, none⟩) hne (.int .i64 (getV (sub l 100 8)))); clear x0 x1 x2 x3 x4 x5 x6 x7 x8 x9 x10 yf; (with_reducible refine (rget_s (sub l 108 8) _ _ (rd_sub (Ha.out.keep HT.out) (i := 108) (n := 8) (by have := H512.out; omega)) (by rw [sub_length (by have := H512.out; omega)]; omega)).mono ?_); rintro e w' ⟨rfl, hs⟩; replace Hb := Lib.hid (Hb.out.keep hs Hb.out.lt); replace HT := Lib.hid (Stp.trans HT.out hs); replace Hz := Lib.hid (Hz.out.keep hs Hz.out.lt); clear hs; obtain ⟨x0, x1, x2, x3, x4, x5, x6, x7, x8, x9, x10⟩ := hd_cells Hb.out; replace x8 : w'.cell? ⟨hb0, 8, none⟩ = some (.int .u8 (t.toNat : Int)) := x8; have yf := Hb.out.free 4)
        | (go_at_call 81; replace Hb := Lib.hid (gR_1 Hb.out); replace HT := Lib.hid (set_stp HT.out hhb 4 (.int .i64 (getV (sub l 108 8)))); replace Hz := Lib.hid (Hz.out.far (p := ⟨hb0, 4, none⟩) hne (.int .i64 (getV (sub l 108 8)))); clear x0 x1 x2 x3 x4 x5 x6 x7 x8 x9 x10 yf; (with_reducible refine (rget_s (sub l 116 8) _ _ (rd_sub (Ha.out.keep HT.out) (i := 116) (n := 8) (by have := H512.out; omega)) (by rw [sub_length (by have := H512.out; omega)]; omega)).mono ?_); rintro e w' ⟨rfl, hs⟩; replace Hb := Lib.hid (Hb.out.keep hs Hb.out.lt); replace HT := Lib.hid (Stp.trans HT.out hs); replace Hz := Lib.hid (Hz.out.keep hs Hz.out.lt); clear hs; obtain ⟨x0, x1, x2, x3, x4, x5, x6, x7, x8, x9, x10⟩ := hd_cells Hb.out; replace x8 : w'.cell? ⟨hb0, 8, none⟩ = some (.int .u8 (t.toNat : Int)) := x8; have yf := Hb.out.free 5)
        | (go_at_call 81; replace Hb := Lib.hid (gR_2 Hb.out); replace HT := Lib.hid (set_stp HT.out hhb 5 (.int .i64 (getV (sub l 116 8)))); replace Hz := Lib.hid (Hz.out.far (p := ⟨hb0, 5, none⟩) hne (.int .i64 (getV (sub l 116 8)))); clear x0 x1 x2 x3 x4 x5 x6 x7 x8 x9 x10 yf; (with_reducible refine (rget_s (sub l 124 12) _ _ (rd_sub (Ha.out.keep HT.out) (i := 124) (n := 12) (by have := H512.out; omega)) (by rw [sub_length (by have := H512.out; omega)]; omega)).mono ?_); rintro e w' ⟨rfl, hs⟩; replace Hb := Lib.hid (Hb.out.keep hs Hb.out.lt); replace HT := Lib.hid (Stp.trans HT.out hs); replace Hz := Lib.hid (Hz.out.keep hs Hz.out.lt); clear hs; obtain ⟨x0, x1, x2, x3, x4, x5, x6, x7, x8, x9, x10⟩ := hd_cells Hb.out; replace x8 : w'.cell? ⟨hb0, 8, none⟩ = some (.int .u8 (t.toNat : Int)) := x8; have yf := Hb.out.free 6)
        | (go_at_call 81; replace Hb := Lib.hid (gR_3 Hb.out); replace HT := Lib.hid (set_stp HT.out hhb 6 (.int .i64 (getV (sub l 124 12)))); replace Hz := Lib.hid (Hz.out.far (p := ⟨hb0, 6, none⟩) hne (.int .i64 (getV (sub l 124 12)))); clear x0 x1 x2 x3 x4 x5 x6 x7 x8 x9 x10 yf; (with_reducible refine (rget_s (sub l 136 12) _ _ (rd_sub (Ha.out.keep HT.out) (i := 136) (n := 12) (by have := H512.out; omega)) (by rw [sub_length (by have := H512.out; omega)]; omega)).mono ?_); rintro e w' ⟨rfl, hs⟩; replace Hb := Lib.hid (Hb.out.keep hs Hb.out.lt); replace HT := Lib.hid (Stp.trans HT.out hs); replace Hz := Lib.hid (Hz.out.keep hs Hz.out.lt); clear hs; obtain ⟨x0, x1, x2, x3, x4, x5, x6, x7, x8, x9, x10⟩ := hd_cells Hb.out; replace x8 : w'.cell? ⟨hb0, 8, none⟩ = some (.int .u8 (t.toNat : Int)) := x8; have yf := Hb.out.free 7)
        | (go_at_call 80; replace Hb := Lib.hid (gR_4 Hb.out); replace HT := Lib.hid (set_stp HT.out hhb 7 (.int .i64 (getV (sub l 136 12)))); replace Hz := Lib.hid (Hz.out.far (p := ⟨hb0, 7, none⟩) hne (.int .i64 (getV (sub l 136 12)))); clear x0 x1 x2 x3 x4 x5 x6 x7 x8 x9 x10 yf; (with_reducible refine (rupto_v (sub l 345 155) _ _ (rd_sub (Ha.out.keep HT.out) (i := 345) (n := 155) (by have := H512.out; omega)) (by rw [sub_length (by have := H512.out; omega)]; omega)).mono ?_); rintro e w' ⟨rfl, hs⟩; replace Hb := Lib.hid (Hb.out.keep hs Hb.out.lt); replace HT := Lib.hid (Stp.trans HT.out hs); replace Hz := Lib.hid (Hz.out.keep hs Hz.out.lt); clear hs; obtain ⟨-, x1, -, -, -, -, -, -, -, -, -⟩ := hd_cells Hb.out; obtain ⟨x0, x2, x3, x4, x5, x6, x7, x8, x9, x10, hre⟩ := fin_n Hb.out (Hend.out.2 H77.out); rw [hre]; clear hre; have yf := Hb.out.free 1; obtain ⟨⟨z0, z1, z2, z3, z4, z5, z6, z7, z8, z9, z10⟩, ⟨y0, y1, y2, y3, y4, y5, y6, y7, y8, y9, y10⟩⟩ := zy Hz.out))
      have hz9 := Hz.out.far (p := ⟨hb0, 1, none⟩) hne (.string ⟨H.pre.toArray⟩)
      have hf := fill_blk H hz9
      have hst := fill_stp (g := gz) H (Stp.trans H1.out (set_stp HT.out hhb 1 (.string ⟨H.pre.toArray⟩))) (by omega)
      change bodyPost _ _ _ _ _ (fillW (w'.setCell ⟨hb0, 1, none⟩ (.string ⟨H.pre.toArray⟩)) gz H)
      generalize fillW (w'.setCell ⟨hb0, 1, none⟩ (.string ⟨H.pre.toArray⟩)) gz H = W at hf hst ⊢
      clear x0 x1 x2 x3 x4 x5 x6 x7 x8 x9 x10 yf z0 z1 z2 z3 z4 z5 z6 z7 z8 z9 z10 y0 y1 y2 y3 y4 y5 y6 y7 y8 y9 y10 g77 hs1 hs0
      obtain ⟨p0, p1, p2, p3, p4, p5, p6, p7, p8, p9, p10⟩ := hd_cells hf
      refine bodyPost_ret (v := hv H) (by simp [results, Try.results53, go_sem, *]) rfl ⟨rfl, hst⟩
end Go.Proofs.Ytleoiejkipobbaa.Head
