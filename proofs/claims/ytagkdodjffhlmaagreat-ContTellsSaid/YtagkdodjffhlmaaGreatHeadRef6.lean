/-
  The document's block of a header: no statement is proved here.
  The document's own answers for package head: guess; no statement is proved here.
  The document's own answers for package head: Get; no statement is proved here.
-/
import Derived.Test.YtagkdodjffhlmaaGreatHeadRefE
import Derived.Test.YtagkdodjffhlmaaGreatHeadRefN
import Derived.Test.YtagkdodjffhlmaaGreatBlockRef
namespace Go.Proofs.YtagkdodjffhlmaaGreat.Head
open Go.RowKit Go.Proofs.YtagkdodjffhlmaaGreat.Base Go.Proofs.YtagkdodjffhlmaaGreat.NumM Go.Proofs.YtagkdodjffhlmaaGreat.Num

theorem rmay_any (h : Hd) (hsm : SmallH h) (w : World) :
    Calls Tryz.prog 44 #[hv h] w fun e w' => e = .returned (.bool (mayH h)) ∧ Stp w w' := by
  by_cases hx : h.name = [] ∨ okT h.name 100 = false ∨ okT h.link 100 = false ∨ okT h.pre 155 = false ∨ putOk h.mode 8 = false ∨ putOk h.uid 8 = false ∨ putOk h.gid 8 = false ∨ putOk h.size 12 = false ∨ putOk h.time 12 = false
  · rw [may_no hx]
    exact rmay_early h hsm w hx
  · simp only [not_or, Bool.not_eq_false] at hx
    obtain ⟨a0, a1, a2, a3, a4, a5, a6, a7, a8⟩ := hx
    exact rmay_late h hsm w a0 a1 a2 a3 a4 a5 a6 a7 a8

set_option linter.unusedSimpArgs false in
set_option maxHeartbeats 8000000 in
set_option maxRecDepth 100000 in
theorem rputH_no (h : Hd) (hs : SmallH h) (w : World) (hm : mayH h = false) :
    Calls Tryz.prog 21 #[hv h] w fun e w' => ∃ A cap, e = .returned (.tuple #[.slice A 0 cap, .bool false]) ∧ RdA w' A cap [] ∧ Stp w w' := by
  have h0 := Stp.refl w
  have Hm := Lib.hid hm
  have Hs := Lib.hid hs
  clear hm hs
  go_enter Tryz.func21, Tryz.ntmps21
  go_wp2_with (go_at_call 44; refine (rmay_any h Hs.out _).mono ?_; rintro e w' ⟨rfl, hs⟩; have H1 := Lib.hid (Stp.trans (Stp.alloc h0 _) hs); clear hs; rw [Hm.out])
  go_ret2
  exact ⟨none, 0, rfl, RdA.nil _, H1.out⟩

theorem rputH_s (h : Hd) (hs : SmallH h) (w : World) :
    Calls Tryz.prog 21 #[hv h] w fun e w' => ∃ A cap, e = .returned (.tuple #[.slice A (putB h).length cap, .bool (mayH h)]) ∧ RdA w' A cap (bs (putB h)) ∧ Stp w w' := by
  cases hm : mayH h
  · rw [show putB h = [] by unfold putB; rw [if_neg (by simp [hm])]]
    exact rputH_no h hs w hm
  · rw [putB_yes hm, blk_length hm hs]
    by_cases ht : h.ty = 77
    · exact rputH_m h hs (rmay_any h hs) w hm ht
    · exact rputH_n h hs (rmay_any h hs) w hm ht
end Go.Proofs.YtagkdodjffhlmaaGreat.Head

namespace Go.Proofs.YtagkdodjffhlmaaGreat.Head
open Go.RowKit Go.Proofs.YtagkdodjffhlmaaGreat.Base Go.Proofs.YtagkdodjffhlmaaGreat.NumM Go.Proofs.YtagkdodjffhlmaaGreat.Num

theorem rget_s (l : L) (v : Value) (w : World) (hv : Rd w w.heap.size v (bs l)) (hbig : l.length < 9223372036854775808) :
    Calls Tryz.prog 100 #[v] w fun e w' => e = .returned (.tuple #[.int .i64 (getV l), .bool (okN l)]) ∧ Stp w w' :=
  (rget_any l v _ w hv (Nat.le_refl _) hbig).mono fun e _ h => ⟨getIs_getV l e h.1, h.2⟩
theorem rupto_v (x : L) (v : Value) (w : World) (hv : Rd w w.heap.size v (bs x)) (hbig : x.length < 9223372036854775808) :
    Calls Tryz.prog 99 #[v] w fun e w' => e = .returned (.string ⟨(upto x).toArray⟩) ∧ Stp w w' := by
  obtain ⟨A, cap, rfl, ha⟩ := RdA.of hv
  rw [bs_length]
  exact rupto_s x A cap w ha hbig
theorem rd_head {w : World} {b o c : Nat} {l : L} (h : RdA w (some ⟨b, o, none⟩) c (bs l)) (hn : 100 ≤ l.length) : Rd w w.heap.size (.slice (some ⟨b, o, none⟩) 100 c) (bs (sub l 0 100)) := by
  have := rd_sub h (i := 0) (n := 100) (by omega)
  rwa [Nat.add_zero, Nat.sub_zero] at this
theorem slice_hd (b o n c : Nat) (hc : 100 ≤ c) (w : World) : (Instr.slice 36 (.slice (some ⟨b, o, none⟩) n c) none (some (.int .i64 100)) none).run Tryz.prog w = .ok (.slice (some ⟨b, o, none⟩) 100 c) w := by
  have he : Tryz.prog.elem 36 = 5 := by kernel_rfl
  have hs : (sizeOf 5).run Tryz.prog w = .ok 1 w := by
    have hi : (Tryz.prog.info? 5).map (·.size) = some 1 := by kernel_rfl
    cases hq : Tryz.prog.info? 5 with
    | none => simp [hq] at hi
    | some i =>
      have : i.size = 1 := by simpa [hq] using hi
      simp [sizeOf, typeInfo, hq, this]
  rw [run_slice_h (P := Tryz.prog) w 36 _ _ _ (by rw [he]; exact Tryz.underlying36) .i64 100 (by omega) (by omega), he, hs]
  simp only [Result.andThen_ok, sliced]
  simp
  intro _
  rw [Addr.add_lit, Nat.add_zero]
theorem slice_lit (b o n c i m : Nat) (lo hj : Int) (h1 : lo = (i : Int)) (h2 : hj = (i : Int) + (m : Int)) (hi : i + m ≤ c) (hm : 0 < m) (w : World) : (Instr.slice 36 (.slice (some ⟨b, o, none⟩) n c) (some (.int .i64 lo)) (some (.int .i64 hj)) none).run Tryz.prog w = .ok (.slice (some ⟨b, o + i, none⟩) m (c - i)) w := by
  subst h1 h2
  exact slice_lh b o n c i m hi hm w

/-- The header while it is read. -/
def gR (b : L) (t : UInt8) (m : Bool) (k : Nat) : Hd :=
  { name := upto (sub b 0 100), pre := cond m [] (if 5 < k then upto (sub b 345 155) else []), link := upto (sub b 157 100), ty := t,
    mode := if 0 < k then getV (sub b 100 8) else 0, uid := if 1 < k then getV (sub b 108 8) else 0, gid := if 2 < k then getV (sub b 116 8) else 0, size := if 3 < k then getV (sub b 124 12) else 0, time := if 4 < k then getV (sub b 136 12) else 0,
    off := cond m (if 5 < k then getV (sub b 369 12) else 0) 0, real := cond m (if 6 < k then getV (sub b 483 12) else 0) 0 }
theorem gR_end (b : L) (t : UInt8) (ht : (sub b 156 1).headD 0 = t) : (t = 77 → gR b t true 7 = guessH b) ∧ (t ≠ 77 → gR b t false 6 = guessH b) := by
  unfold guessH gR
  rw [ht]
  constructor
  · intro h; simp [h]
  · intro h; simp [h]
theorem gR_0 {w : World} {g : Nat} {ty : TypeId} {b : L} {t : UInt8} {m : Bool} (h : Blk w g ty (hcells (gR b t m 0))) : Blk (w.setCell ⟨g, 3, none⟩ (.int .i64 (getV (sub b 100 8)))) g ty (hcells (gR b t m 1)) := h.put 3 (.int .i64 (getV (sub b 100 8)))
theorem gR_1 {w : World} {g : Nat} {ty : TypeId} {b : L} {t : UInt8} {m : Bool} (h : Blk w g ty (hcells (gR b t m 1))) : Blk (w.setCell ⟨g, 4, none⟩ (.int .i64 (getV (sub b 108 8)))) g ty (hcells (gR b t m 2)) := h.put 4 (.int .i64 (getV (sub b 108 8)))
theorem gR_2 {w : World} {g : Nat} {ty : TypeId} {b : L} {t : UInt8} {m : Bool} (h : Blk w g ty (hcells (gR b t m 2))) : Blk (w.setCell ⟨g, 5, none⟩ (.int .i64 (getV (sub b 116 8)))) g ty (hcells (gR b t m 3)) := h.put 5 (.int .i64 (getV (sub b 116 8)))
theorem gR_3 {w : World} {g : Nat} {ty : TypeId} {b : L} {t : UInt8} {m : Bool} (h : Blk w g ty (hcells (gR b t m 3))) : Blk (w.setCell ⟨g, 6, none⟩ (.int .i64 (getV (sub b 124 12)))) g ty (hcells (gR b t m 4)) := h.put 6 (.int .i64 (getV (sub b 124 12)))
theorem gR_4 {w : World} {g : Nat} {ty : TypeId} {b : L} {t : UInt8} {m : Bool} (h : Blk w g ty (hcells (gR b t m 4))) : Blk (w.setCell ⟨g, 7, none⟩ (.int .i64 (getV (sub b 136 12)))) g ty (hcells (gR b t m 5)) := h.put 7 (.int .i64 (getV (sub b 136 12)))
theorem gR_5m {w : World} {g : Nat} {ty : TypeId} {b : L} {t : UInt8} (h : Blk w g ty (hcells (gR b t true 5))) : Blk (w.setCell ⟨g, 9, none⟩ (.int .i64 (getV (sub b 369 12)))) g ty (hcells (gR b t true 6)) := h.put 9 (.int .i64 (getV (sub b 369 12)))

theorem fin_m {w : World} {g : Nat} {ty : TypeId} {b : L} {t : UInt8} {H : Hd} (h : Blk w g ty (hcells (gR b t true 6))) (e : gR b t true 7 = H) : w.cell? ⟨g, 0, none⟩ = some (.string ⟨H.name.toArray⟩) ∧ w.cell? ⟨g, 1, none⟩ = some (.string ⟨H.pre.toArray⟩) ∧ w.cell? ⟨g, 2, none⟩ = some (.string ⟨H.link.toArray⟩) ∧ w.cell? ⟨g, 3, none⟩ = some (.int .i64 H.mode) ∧ w.cell? ⟨g, 4, none⟩ = some (.int .i64 H.uid) ∧ w.cell? ⟨g, 5, none⟩ = some (.int .i64 H.gid) ∧ w.cell? ⟨g, 6, none⟩ = some (.int .i64 H.size) ∧ w.cell? ⟨g, 7, none⟩ = some (.int .i64 H.time) ∧ w.cell? ⟨g, 8, none⟩ = some (.int .u8 (H.ty.toNat : Int)) ∧ w.cell? ⟨g, 9, none⟩ = some (.int .i64 H.off) ∧ getV (sub b 483 12) = H.real := by
  subst e
  obtain ⟨x0, x1, x2, x3, x4, x5, x6, x7, x8, x9, x10⟩ := hd_cells h
  refine ⟨?_, ?_, ?_, ?_, ?_, ?_, ?_, ?_, ?_, ?_, ?_⟩
  · simpa [gR] using x0
  · simpa [gR] using x1
  · simpa [gR] using x2
  · simpa [gR] using x3
  · simpa [gR] using x4
  · simpa [gR] using x5
  · simpa [gR] using x6
  · simpa [gR] using x7
  · simpa [gR] using x8
  · simpa [gR] using x9
  · simp [gR]
theorem fin_n {w : World} {g : Nat} {ty : TypeId} {b : L} {t : UInt8} {H : Hd} (h : Blk w g ty (hcells (gR b t false 5))) (e : gR b t false 6 = H) : w.cell? ⟨g, 0, none⟩ = some (.string ⟨H.name.toArray⟩) ∧ w.cell? ⟨g, 2, none⟩ = some (.string ⟨H.link.toArray⟩) ∧ w.cell? ⟨g, 3, none⟩ = some (.int .i64 H.mode) ∧ w.cell? ⟨g, 4, none⟩ = some (.int .i64 H.uid) ∧ w.cell? ⟨g, 5, none⟩ = some (.int .i64 H.gid) ∧ w.cell? ⟨g, 6, none⟩ = some (.int .i64 H.size) ∧ w.cell? ⟨g, 7, none⟩ = some (.int .i64 H.time) ∧ w.cell? ⟨g, 8, none⟩ = some (.int .u8 (H.ty.toNat : Int)) ∧ w.cell? ⟨g, 9, none⟩ = some (.int .i64 H.off) ∧ w.cell? ⟨g, 10, none⟩ = some (.int .i64 H.real) ∧ upto (sub b 345 155) = H.pre := by
  subst e
  obtain ⟨x0, x1, x2, x3, x4, x5, x6, x7, x8, x9, x10⟩ := hd_cells h
  refine ⟨?_, ?_, ?_, ?_, ?_, ?_, ?_, ?_, ?_, ?_, ?_⟩
  · simpa [gR] using x0
  · simpa [gR] using x2
  · simpa [gR] using x3
  · simpa [gR] using x4
  · simpa [gR] using x5
  · simpa [gR] using x6
  · simpa [gR] using x7
  · simpa [gR] using x8
  · simpa [gR] using x9
  · simpa [gR] using x10
  · simp [gR]

set_option linter.unusedSimpArgs false in
set_option maxHeartbeats 8000000 in
set_option maxRecDepth 100000 in
theorem rguess_s (l : L) (A : Option Addr) (c : Nat) (w : World) (ha : RdA w A c (bs l)) (h512 : l.length = 512) :
    Calls Tryz.prog 80 #[.slice A l.length c] w fun e w' => e = .returned (hv (guessH l)) ∧ Stp w w' := by
  have h0 := Stp.refl w
  obtain ⟨t, ht⟩ : ∃ t, l[156]? = some t := ⟨_, List.getElem?_eq_getElem (by omega)⟩
  have hend := gR_end l t (sub_head t ht)
  obtain ⟨b, o, rfl, hcell⟩ := ha.at_ (j := 156) (by rw [bs_length]; omega)
  have c156 := hcell 156 (.int .u8 (t.toNat : Int)) (by rw [bs_at (by omega), ← (List.getElem?_eq_some_iff.1 ht).2])
  have hcl := ha.length_le
  rw [bs_length] at hcl
  have hs0 := slice_hd b o l.length c (by omega)
  have hs1 := slice_lit b o l.length c 157 100 157 257 (by omega) (by omega) (by omega) (by omega)
  have Hs2 := Lib.hid (slice_lit b o l.length c 100 8 100 108 (by omega) (by omega) (by omega) (by omega))
  have Hs3 := Lib.hid (slice_lit b o l.length c 108 8 108 116 (by omega) (by omega) (by omega) (by omega))
  have Hs4 := Lib.hid (slice_lit b o l.length c 116 8 116 124 (by omega) (by omega) (by omega) (by omega))
  have Hs5 := Lib.hid (slice_lit b o l.length c 124 12 124 136 (by omega) (by omega) (by omega) (by omega))
  have Hs6 := Lib.hid (slice_lit b o l.length c 136 12 136 148 (by omega) (by omega) (by omega) (by omega))
  have Hs7 := Lib.hid (slice_lit b o l.length c 369 12 369 381 (by omega) (by omega) (by omega) (by omega))
  have Hs8 := Lib.hid (slice_lit b o l.length c 483 12 483 495 (by omega) (by omega) (by omega) (by omega))
  have Hs9 := Lib.hid (slice_lit b o l.length c 345 155 345 500 (by omega) (by omega) (by omega) (by omega))
  have hl156 : (156 : Int) < (l.length : Int) := by omega
  have Hbw := Lib.hid (World.block_lt_of_cell? w _ c156)
  obtain ⟨H, hH⟩ : ∃ H, guessH l = H := ⟨_, rfl⟩
  rw [hH] at hend ⊢
  have Hend := Lib.hid hend
  have H512 := Lib.hid h512
  obtain ⟨N, hN⟩ : ∃ N, l.length = N := ⟨_, rfl⟩
  have HN := Lib.hid hN
  rw [hN] at hs0 hs1 Hs2 Hs3 Hs4 Hs5 Hs6 Hs7 Hs8 Hs9 hl156 ⊢
  clear hcell ht h512 hend hH hcl hN
  go_enter Tryz.func80, Tryz.ntmps80
  go_wp2_with fail
  have hz1 : Blk (w.alloc (.cells (hcells zeroH) 40)) w.heap.size 40 (hcells zeroH) := Blk.new w _ _
  have h1 : Stp w (w.alloc (.cells (hcells zeroH) 40)) := Stp.alloc h0 _
  have hsz1 : w.heap.size < (w.alloc (.cells (hcells zeroH) 40)).heap.size := by simp
  change Code.wp _ _ _ _ (w.alloc (.cells (hcells zeroH) 40))
  generalize w.alloc (.cells (hcells zeroH) 40) = w1 at hz1 h1 hsz1 ⊢
  have Ha := Lib.hid (ha.keep h1)
  have Hz1 := Lib.hid hz1
  have H1 := Lib.hid h1
  have key : ∀ W, Stp w1 W → W.cell? ⟨b, o + 156, none⟩ = some (.int .u8 (t.toNat : Int)) := fun W hW =>
    (hW.cell (p := ⟨b, o + 156, none⟩) (Nat.lt_trans Hbw.out hsz1)).trans ((h1.cell (p := ⟨b, o + 156, none⟩) Hbw.out).trans c156)
  have Key := Lib.hid key
  obtain ⟨gz, hgz⟩ : ∃ x, w.heap.size = x := ⟨_, rfl⟩
  rw [hgz] at Hz1 hsz1
  (try rw [hgz])
  clear key hz1 h1 ha c156 h0
  refine wp_region_held_drew (S := (fun W : World => W.cell? ⟨b, o + 156, none⟩ = some (.int .u8 (t.toNat : Int)))) (by kernel_rfl) (Key.out _ (stp_drew (Stp.refl _))) (fun hHeld => ?_)
  refine wpAnyH_take (i := 0) (oi := { dst := some 4, op := Go.Op.move (Go.Operand.tmp 0), type := 36, pos := "ref.go:122", after := #[], guard := none }) (v := ?v0) rfl (by kernel_rfl) (by kernel_rfl) (by kernel_rfl) (fun _ _ _ h => h) (Or.inl ⟨by rfl, ?hy0⟩) (by assumption) ?rest0
  case hy0 => (intro w hSw; (try dsimp only at hSw); go_simp; try with_reducible rfl)
  try simp only [Act.put, List.setIfInBounds_toArray, List.set_cons_zero, List.set_cons_succ]
  refine wpAnyH_take (i := 1) (oi := { dst := some 5, op := Go.Op.slice 36 (Go.Operand.tmp 4) none (some (Go.Operand.const (Go.Value.int Go.IntKind.i64 100))) none, type := 36, pos := "ref.go:122", after := #[{ on := 0, ground := Go.Ground.data }], guard := none }) (v := ?v1) rfl (by kernel_rfl) (by kernel_rfl) (by kernel_rfl) (fun _ _ _ h => h) (Or.inl ⟨by rfl, ?hy1⟩) (by assumption) ?rest1
  case hy1 => (intro w hSw; (try dsimp only at hSw); go_simp; try with_reducible rfl)
  try simp only [Act.put, List.setIfInBounds_toArray, List.set_cons_zero, List.set_cons_succ]
  refine wpAnyH_take (i := 3) (oi := { dst := some 7, op := Go.Op.move (Go.Operand.tmp 0), type := 36, pos := "ref.go:122", after := #[], guard := none }) (v := ?v3) rfl (by kernel_rfl) (by kernel_rfl) (by kernel_rfl) (fun _ _ _ h => h) (Or.inl ⟨by rfl, ?hy3⟩) (by assumption) ?rest3
  case hy3 => (intro w hSw; (try dsimp only at hSw); go_simp; try with_reducible rfl)
  try simp only [Act.put, List.setIfInBounds_toArray, List.set_cons_zero, List.set_cons_succ]
  refine wpAnyH_take (i := 4) (oi := { dst := some 8, op := Go.Op.slice 36 (Go.Operand.tmp 7) (some (Go.Operand.const (Go.Value.int Go.IntKind.i64 157))) (some (Go.Operand.const (Go.Value.int Go.IntKind.i64 257))) none, type := 36, pos := "ref.go:122", after := #[{ on := 3, ground := Go.Ground.data }], guard := none }) (v := ?v4) rfl (by kernel_rfl) (by kernel_rfl) (by kernel_rfl) (fun _ _ _ h => h) (Or.inl ⟨by rfl, ?hy4⟩) (by assumption) ?rest4
  case hy4 => (intro w hSw; (try dsimp only at hSw); go_simp; try with_reducible rfl)
  try simp only [Act.put, List.setIfInBounds_toArray, List.set_cons_zero, List.set_cons_succ]
  refine wpAnyH_take (i := 6) (oi := { dst := some 10, op := Go.Op.move (Go.Operand.tmp 0), type := 36, pos := "ref.go:122", after := #[], guard := none }) (v := ?v6) rfl (by kernel_rfl) (by kernel_rfl) (by kernel_rfl) (fun _ _ _ h => h) (Or.inl ⟨by rfl, ?hy6⟩) (by assumption) ?rest6
  case hy6 => (intro w hSw; (try dsimp only at hSw); go_simp; try with_reducible rfl)
  try simp only [Act.put, List.setIfInBounds_toArray, List.set_cons_zero, List.set_cons_succ]
  refine wpAnyH_take (i := 7) (oi := { dst := some 11, op := Go.Op.indexAddr 36 (Go.Operand.tmp 10) (Go.Operand.const (Go.Value.int Go.IntKind.i64 156)), type := 0, pos := "ref.go:122", after := #[{ on := 6, ground := Go.Ground.data }], guard := none }) (v := ?v7) rfl (by kernel_rfl) (by kernel_rfl) (by kernel_rfl) (fun _ _ _ h => h) (Or.inl ⟨by rfl, ?hy7⟩) (by assumption) ?rest7
  case hy7 => (intro w hSw; (try dsimp only at hSw); go_simp; try with_reducible rfl)
  try simp only [Act.put, List.setIfInBounds_toArray, List.set_cons_zero, List.set_cons_succ]
  refine wpAnyH_take (i := 8) (oi := { dst := some 12, op := Go.Op.load 5 (Go.Operand.tmp 11), type := 5, pos := "ref.go:122", after := #[{ on := 7, ground := Go.Ground.data }], guard := none }) (v := ?v8) rfl (by kernel_rfl) (by kernel_rfl) (by kernel_rfl) (fun _ _ _ h => h) (Or.inl ⟨by rfl, ?hy8⟩) (by assumption) ?rest8
  case hy8 => (intro w hSw; (try dsimp only at hSw); go_simp; try with_reducible rfl)
  try simp only [Act.put, List.setIfInBounds_toArray, List.set_cons_zero, List.set_cons_succ]
  refine wpAnyH_ready (rs := [2, 10]) (by kernel_rfl) (by simp) ?_
  refine AllReadyH.cons (o := { dst := some 6, op := Go.Op.call { callee := Go.Callee.value (Go.Operand.func 99), args := #[Go.Operand.tmp 5], argTypes := #[36] }, type := 9, pos := "ref.go:122", after := #[{ on := 1, ground := Go.Ground.data }], guard := none }) rfl (fun K hK => ?_) (AllReadyH.cons (o := { dst := some 3, op := Go.Op.alloc 40, type := 0, pos := "ref.go:122", after := #[], guard := none }) rfl (fun K hK => ?_) AllReadyH.nil)
  · go_simp
    refine (rupto_v (sub l 0 100) _ _ (rd_head (Ha.out.keep (stp_drew (Stp.refl w1))) (by have := H512.out; omega)) (by rw [sub_length (by have := H512.out; omega)]; omega)).mono ?_
    rintro e wx ⟨rfl, hs⟩
    have T1 := Lib.hid (Stp.trans (stp_drew (Stp.refl w1)) hs)
    clear hs
    go_wp2_with fail
    refine hK.out _ _ (Key.out _ (T1.out)) (fun hHeld2 => ?_)
    clear hK K hHeld
    have hHeld := hHeld2
    clear hHeld2
    try simp only [Act.put, List.setIfInBounds_toArray, List.set_cons_zero, List.set_cons_succ]
    refine wpAnyH_ready (rs := [5, 10]) (by kernel_rfl) (by simp) ?_
    refine AllReadyH.cons (o := { dst := some 9, op := Go.Op.call { callee := Go.Callee.value (Go.Operand.func 99), args := #[Go.Operand.tmp 8], argTypes := #[36] }, type := 9, pos := "ref.go:122", after := #[{ on := 4, ground := Go.Ground.data }, { on := 2, ground := Go.Ground.chain }], guard := none }) rfl (fun K hK => ?_) (AllReadyH.cons (o := { dst := some 3, op := Go.Op.alloc 40, type := 0, pos := "ref.go:122", after := #[], guard := none }) rfl (fun K hK => ?_) AllReadyH.nil)
    · go_simp
      refine (rupto_v (sub l 157 100) _ _ (rd_sub (Ha.out.keep (T1.out)) (i := 157) (n := 100) (by have := H512.out; omega)) (by rw [sub_length (by have := H512.out; omega)]; omega)).mono ?_
      rintro e wy ⟨rfl, hs⟩
      have T2 := Lib.hid (Stp.trans (T1.out) hs)
      clear hs
      go_wp2_with fail
      refine hK.out _ _ (Key.out _ (T2.out)) (fun hHeld2 => ?_)
      clear hK K hHeld
      have hHeld := hHeld2
      clear hHeld2
      try simp only [Act.put, List.setIfInBounds_toArray, List.set_cons_zero, List.set_cons_succ]
      refine wpAnyH_take (i := 9) (oi := { dst := some 13, op := Go.Op.build 40 #[(0, Go.Operand.tmp 6), (2, Go.Operand.tmp 9), (8, Go.Operand.tmp 12)], type := 40, pos := "ref.go:122", after := #[{ on := 2, ground := Go.Ground.data }, { on := 5, ground := Go.Ground.data }, { on := 8, ground := Go.Ground.data }], guard := none }) (v := ?v9p) rfl (by kernel_rfl) (by kernel_rfl) (by kernel_rfl) (fun _ _ _ h => h) (Or.inl ⟨by rfl, ?hy9p⟩) (by assumption) ?rest9p
      case hy9p => (intro w hSw; (try dsimp only at hSw); go_simp; try with_reducible rfl)
      try simp only [Act.put, List.setIfInBounds_toArray, List.set_cons_zero, List.set_cons_succ]
      refine wpAnyH_ready (rs := [10]) (by kernel_rfl) (by simp) ?_
      refine AllReadyH.cons (o := { dst := some 3, op := Go.Op.alloc 40, type := 0, pos := "ref.go:122", after := #[], guard := none }) rfl (fun K hK => ?_) AllReadyH.nil
      go_simp
      have hb : Blk (wy.alloc (.cells (hcells zeroH) 40)) wy.heap.size 40 (hcells zeroH) := Blk.new wy 40 (hcells zeroH)
      have ta : Stp w1 (wy.alloc (.cells (hcells zeroH) 40)) := Stp.alloc (T2.out) _
      have hlb : wy.heap.size < (wy.alloc (.cells (hcells zeroH) 40)).heap.size := by simp
      refine hK.out _ (wy.alloc (.cells (hcells zeroH) 40)) (Key.out _ (ta)) (fun hHeld2 => ?_)
      clear hK K hHeld
      have hHeld := hHeld2
      clear hHeld2
      try simp only [Act.put, List.setIfInBounds_toArray, List.set_cons_zero, List.set_cons_succ]
      generalize wy.alloc (.cells (hcells zeroH) 40) = wa at hb ta hlb hHeld ⊢
      obtain ⟨hb0, hq⟩ : ∃ x, wy.heap.size = x := ⟨_, rfl⟩
      have hhb : w1.heap.size ≤ hb0 := by rw [← hq]; exact (T2.out).size
      rw [hq] at hb hlb ⊢
      clear hq
      have Hb := Lib.hid hb
      have Ta := Lib.hid ta
      clear hb ta
      refine wpAnyH_ready (rs := [11]) (by kernel_rfl) (by simp) ?_
      refine AllReadyH.cons (o := { dst := none, op := Go.Op.store 40 (Go.Operand.tmp 3) (Go.Operand.tmp 13), type := 0, pos := "ref.go:122", after := #[{ on := 10, ground := Go.Ground.data }, { on := 9, ground := Go.Ground.data }, { on := 5, ground := Go.Ground.chain }, { on := 0, ground := Go.Ground.phase }, { on := 1, ground := Go.Ground.phase }, { on := 2, ground := Go.Ground.phase }, { on := 3, ground := Go.Ground.phase }, { on := 4, ground := Go.Ground.phase }, { on := 5, ground := Go.Ground.phase }, { on := 6, ground := Go.Ground.phase }, { on := 7, ground := Go.Ground.phase }, { on := 8, ground := Go.Ground.phase }, { on := 9, ground := Go.Ground.phase }, { on := 10, ground := Go.Ground.phase }], guard := none }) rfl (fun K hK => ?_) AllReadyH.nil
      obtain ⟨⟨z0, z1, z2, z3, z4, z5, z6, z7, z8, z9, z10⟩, ⟨y0, y1, y2, y3, y4, y5, y6, y7, y8, y9, y10⟩⟩ := zy Hb.out
      go_simp
      (try go_wp2_with fail)
      have hf := fill_blk (gR l t false 0) Hb.out
      have hst := fill_stp (g := hb0) (gR l t false 0) Ta.out (by omega)
      clear z0 z1 z2 z3 z4 z5 z6 z7 z8 z9 z10 y0 y1 y2 y3 y4 y5 y6 y7 y8 y9 y10
      refine hK.out _ (fillW wa hb0 (gR l t false 0)) (Key.out _ hst) (fun hHeld2 => ?_)
      have Hz := Lib.hid (Hz1.out.keep hst Hz1.out.lt)
      clear hK K hHeld hHeld2 Hb
      generalize fillW wa hb0 (gR l t false 0) = W0 at hf hst Hz ⊢
      have Hb := Lib.hid hf
      have HT := Lib.hid hst
      clear hf hst
      try simp only [Act.put, List.setIfInBounds_toArray, List.set_cons_zero, List.set_cons_succ]
      refine wpAnyH_done (by kernel_rfl) ?_ _
      have hne : gz ≠ hb0 := by omega
      have hs2 := Hs2.out
      have hs3 := Hs3.out
      have hs4 := Hs4.out
      have hs5 := Hs5.out
      have hs6 := Hs6.out
      have hs7 := Hs7.out
      have hs8 := Hs8.out
      have hs9 := Hs9.out
      by_cases h77 : t = 77
      · have g77 : ((t.toNat : Int) == 77) = true := by rw [is77]; exact decide_eq_true h77
        have H77 := Lib.hid h77
        clear h77
        have Hb := Lib.hid (show Blk W0 hb0 40 (hcells (gR l t true 0)) from Hb.out)
        go_wp2_with (first
          | (go_at_call 100; (with_reducible refine (rget_s (sub l 100 8) _ _ (rd_sub (Ha.out.keep HT.out) (i := 100) (n := 8) (by have := H512.out; omega)) (by rw [sub_length (by have := H512.out; omega)]; omega)).mono ?_); rintro e w' ⟨rfl, hs⟩; replace Hb := Lib.hid (Hb.out.keep hs Hb.out.lt); replace HT := Lib.hid (Stp.trans HT.out hs); replace Hz := Lib.hid (Hz.out.keep hs Hz.out.lt); clear hs; obtain ⟨x0, x1, x2, x3, x4, x5, x6, x7, x8, x9, x10⟩ := hd_cells Hb.out; replace x8 : w'.cell? ⟨hb0, 8, none⟩ = some (.int .u8 (t.toNat : Int)) := x8; have yf := Hb.out.free 3)
          | (go_at_call 100; replace Hb := Lib.hid (gR_0 Hb.out); replace HT := Lib.hid (set_stp HT.out hhb 3 (.int .i64 (getV (sub l 100 8)))); replace Hz := Lib.hid (Hz.out.far (p := ⟨hb0, 3, none⟩) hne (.int .i64 (getV (sub l 100 8)))); clear x0 x1 x2 x3 x4 x5 x6 x7 x8 x9 x10 yf; (with_reducible refine (rget_s (sub l 108 8) _ _ (rd_sub (Ha.out.keep HT.out) (i := 108) (n := 8) (by have := H512.out; omega)) (by rw [sub_length (by have := H512.out; omega)]; omega)).mono ?_); rintro e w' ⟨rfl, hs⟩; replace Hb := Lib.hid (Hb.out.keep hs Hb.out.lt); replace HT := Lib.hid (Stp.trans HT.out hs); replace Hz := Lib.hid (Hz.out.keep hs Hz.out.lt); clear hs; obtain ⟨x0, x1, x2, x3, x4, x5, x6, x7, x8, x9, x10⟩ := hd_cells Hb.out; replace x8 : w'.cell? ⟨hb0, 8, none⟩ = some (.int .u8 (t.toNat : Int)) := x8; have yf := Hb.out.free 4)
          | (go_at_call 100; replace Hb := Lib.hid (gR_1 Hb.out); replace HT := Lib.hid (set_stp HT.out hhb 4 (.int .i64 (getV (sub l 108 8)))); replace Hz := Lib.hid (Hz.out.far (p := ⟨hb0, 4, none⟩) hne (.int .i64 (getV (sub l 108 8)))); clear x0 x1 x2 x3 x4 x5 x6 x7 x8 x9 x10 yf; (with_reducible refine (rget_s (sub l 116 8) _ _ (rd_sub (Ha.out.keep HT.out) (i := 116) (n := 8) (by have := H512.out; omega)) (by rw [sub_length (by have := H512.out; omega)]; omega)).mono ?_); rintro e w' ⟨rfl, hs⟩; replace Hb := Lib.hid (Hb.out.keep hs Hb.out.lt); replace HT := Lib.hid (Stp.trans HT.out hs); replace Hz := Lib.hid (Hz.out.keep hs Hz.out.lt); clear hs; obtain ⟨x0, x1, x2, x3, x4, x5, x6, x7, x8, x9, x10⟩ := hd_cells Hb.out; replace x8 : w'.cell? ⟨hb0, 8, none⟩ = some (.int .u8 (t.toNat : Int)) := x8; have yf := Hb.out.free 5)
          | (go_at_call 100; replace Hb := Lib.hid (gR_2 Hb.out); replace HT := Lib.hid (set_stp HT.out hhb 5 (.int .i64 (getV (sub l 116 8)))); replace Hz := Lib.hid (Hz.out.far (p := ⟨hb0, 5, none⟩) hne (.int .i64 (getV (sub l 116 8)))); clear x0 x1 x2 x3 x4 x5 x6 x7 x8 x9 x10 yf; (with_reducible refine (rget_s (sub l 124 12) _ _ (rd_sub (Ha.out.keep HT.out) (i := 124) (n := 12) (by have := H512.out; omega)) (by rw [sub_length (by have := H512.out; omega)]; omega)).mono ?_); rintro e w' ⟨rfl, hs⟩; replace Hb := Lib.hid (Hb.out.keep hs Hb.out.lt); replace HT := Lib.hid (Stp.trans HT.out hs); replace Hz := Lib.hid (Hz.out.keep hs Hz.out.lt); clear hs; obtain ⟨x0, x1, x2, x3, x4, x5, x6, x7, x8, x9, x10⟩ := hd_cells Hb.out; replace x8 : w'.cell? ⟨hb0, 8, none⟩ = some (.int .u8 (t.toNat : Int)) := x8; have yf := Hb.out.free 6)
          | (go_at_call 100; replace Hb := Lib.hid (gR_3 Hb.out); replace HT := Lib.hid (set_stp HT.out hhb 6 (.int .i64 (getV (sub l 124 12)))); replace Hz := Lib.hid (Hz.out.far (p := ⟨hb0, 6, none⟩) hne (.int .i64 (getV (sub l 124 12)))); clear x0 x1 x2 x3 x4 x5 x6 x7 x8 x9 x10 yf; (with_reducible refine (rget_s (sub l 136 12) _ _ (rd_sub (Ha.out.keep HT.out) (i := 136) (n := 12) (by have := H512.out; omega)) (by rw [sub_length (by have := H512.out; omega)]; omega)).mono ?_); rintro e w' ⟨rfl, hs⟩; replace Hb := Lib.hid (Hb.out.keep hs Hb.out.lt); replace HT := Lib.hid (Stp.trans HT.out hs); replace Hz := Lib.hid (Hz.out.keep hs Hz.out.lt); clear hs; obtain ⟨x0, x1, x2, x3, x4, x5, x6, x7, x8, x9, x10⟩ := hd_cells Hb.out; replace x8 : w'.cell? ⟨hb0, 8, none⟩ = some (.int .u8 (t.toNat : Int)) := x8; have yf := Hb.out.free 7)
          | (go_at_call 100; replace Hb := Lib.hid (gR_4 Hb.out); replace HT := Lib.hid (set_stp HT.out hhb 7 (.int .i64 (getV (sub l 136 12)))); replace Hz := Lib.hid (Hz.out.far (p := ⟨hb0, 7, none⟩) hne (.int .i64 (getV (sub l 136 12)))); clear x0 x1 x2 x3 x4 x5 x6 x7 x8 x9 x10 yf; (with_reducible refine (rget_s (sub l 369 12) _ _ (rd_sub (Ha.out.keep HT.out) (i := 369) (n := 12) (by have := H512.out; omega)) (by rw [sub_length (by have := H512.out; omega)]; omega)).mono ?_); rintro e w' ⟨rfl, hs⟩; replace Hb := Lib.hid (Hb.out.keep hs Hb.out.lt); replace HT := Lib.hid (Stp.trans HT.out hs); replace Hz := Lib.hid (Hz.out.keep hs Hz.out.lt); clear hs; obtain ⟨x0, x1, x2, x3, x4, x5, x6, x7, x8, x9, x10⟩ := hd_cells Hb.out; replace x8 : w'.cell? ⟨hb0, 8, none⟩ = some (.int .u8 (t.toNat : Int)) := x8; have yf := Hb.out.free 9)
          | (go_at_call 100; replace Hb := Lib.hid (gR_5m Hb.out); replace HT := Lib.hid (set_stp HT.out hhb 9 (.int .i64 (getV (sub l 369 12)))); replace Hz := Lib.hid (Hz.out.far (p := ⟨hb0, 9, none⟩) hne (.int .i64 (getV (sub l 369 12)))); clear x0 x1 x2 x3 x4 x5 x6 x7 x8 x9 x10 yf; (with_reducible refine (rget_s (sub l 483 12) _ _ (rd_sub (Ha.out.keep HT.out) (i := 483) (n := 12) (by have := H512.out; omega)) (by rw [sub_length (by have := H512.out; omega)]; omega)).mono ?_); rintro e w' ⟨rfl, hs⟩; replace Hb := Lib.hid (Hb.out.keep hs Hb.out.lt); replace HT := Lib.hid (Stp.trans HT.out hs); replace Hz := Lib.hid (Hz.out.keep hs Hz.out.lt); clear hs; obtain ⟨-, -, -, -, -, -, -, -, -, -, x10⟩ := hd_cells Hb.out; obtain ⟨x0, x1, x2, x3, x4, x5, x6, x7, x8, x9, hre⟩ := fin_m Hb.out (Hend.out.1 H77.out); rw [hre]; clear hre; have yf := Hb.out.free 10; obtain ⟨⟨z0, z1, z2, z3, z4, z5, z6, z7, z8, z9, z10⟩, ⟨y0, y1, y2, y3, y4, y5, y6, y7, y8, y9, y10⟩⟩ := zy Hz.out))
        have hz9 := Hz.out.far (p := ⟨hb0, 10, none⟩) hne (.int .i64 H.real)
        have hf := fill_blk H hz9
        have hst := fill_stp (g := gz) H (Stp.trans H1.out (set_stp HT.out hhb 10 (.int .i64 H.real))) (by omega)
        change bodyPost _ _ _ _ _ (fillW (w'.setCell ⟨hb0, 10, none⟩ (.int .i64 H.real)) gz H)
        generalize fillW (w'.setCell ⟨hb0, 10, none⟩ (.int .i64 H.real)) gz H = W at hf hst ⊢
        clear x0 x1 x2 x3 x4 x5 x6 x7 x8 x9 x10 yf z0 z1 z2 z3 z4 z5 z6 z7 z8 z9 z10 y0 y1 y2 y3 y4 y5 y6 y7 y8 y9 y10 g77 hs1 hs0
        obtain ⟨p0, p1, p2, p3, p4, p5, p6, p7, p8, p9, p10⟩ := hd_cells hf
        refine bodyPost_ret (v := hv H) (by simp [results, Tryz.results80, go_sem, *]) rfl ⟨rfl, hst⟩
      · have g77 : ((t.toNat : Int) == 77) = false := by rw [is77]; exact decide_eq_false h77
        have H77 := Lib.hid h77
        clear h77
        have Hb := Lib.hid (show Blk W0 hb0 40 (hcells (gR l t false 0)) from Hb.out)
        go_wp2_with (first
          | (go_at_call 100; (with_reducible refine (rget_s (sub l 100 8) _ _ (rd_sub (Ha.out.keep HT.out) (i := 100) (n := 8) (by have := H512.out; omega)) (by rw [sub_length (by have := H512.out; omega)]; omega)).mono ?_); rintro e w' ⟨rfl, hs⟩; replace Hb := Lib.hid (Hb.out.keep hs Hb.out.lt); replace HT := Lib.hid (Stp.trans HT.out hs); replace Hz := Lib.hid (Hz.out.keep hs Hz.out.lt); clear hs; obtain ⟨x0, x1, x2, x3, x4, x5, x6, x7, x8, x9, x10⟩ := hd_cells Hb.out; replace x8 : w'.cell? ⟨hb0, 8, none⟩ = some (.int .u8 (t.toNat : Int)) := x8; have yf := Hb.out.free 3)
          | (go_at_call 100; replace Hb := Lib.hid (gR_0 Hb.out); replace HT := Lib.hid (set_stp HT.out hhb 3 (.int .i64 (getV (sub l 100 8)))); replace Hz := Lib.hid (Hz.out.far (p := ⟨hb0, 3, none⟩) hne (.int .i64 (getV (sub l 100 8)))); clear x0 x1 x2 x3 x4 x5 x6 x7 x8 x9 x10 yf; (with_reducible refine (rget_s (sub l 108 8) _ _ (rd_sub (Ha.out.keep HT.out) (i := 108) (n := 8) (by have := H512.out; omega)) (by rw [sub_length (by have := H512.out; omega)]; omega)).mono ?_); rintro e w' ⟨rfl, hs⟩; replace Hb := Lib.hid (Hb.out.keep hs Hb.out.lt); replace HT := Lib.hid (Stp.trans HT.out hs); replace Hz := Lib.hid (Hz.out.keep hs Hz.out.lt); clear hs; obtain ⟨x0, x1, x2, x3, x4, x5, x6, x7, x8, x9, x10⟩ := hd_cells Hb.out; replace x8 : w'.cell? ⟨hb0, 8, none⟩ = some (.int .u8 (t.toNat : Int)) := x8; have yf := Hb.out.free 4)
          | (go_at_call 100; replace Hb := Lib.hid (gR_1 Hb.out); replace HT := Lib.hid (set_stp HT.out hhb 4 (.int .i64 (getV (sub l 108 8)))); replace Hz := Lib.hid (Hz.out.far (p := ⟨hb0, 4, none⟩) hne (.int .i64 (getV (sub l 108 8)))); clear x0 x1 x2 x3 x4 x5 x6 x7 x8 x9 x10 yf; (with_reducible refine (rget_s (sub l 116 8) _ _ (rd_sub (Ha.out.keep HT.out) (i := 116) (n := 8) (by have := H512.out; omega)) (by rw [sub_length (by have := H512.out; omega)]; omega)).mono ?_); rintro e w' ⟨rfl, hs⟩; replace Hb := Lib.hid (Hb.out.keep hs Hb.out.lt); replace HT := Lib.hid (Stp.trans HT.out hs); replace Hz := Lib.hid (Hz.out.keep hs Hz.out.lt); clear hs; obtain ⟨x0, x1, x2, x3, x4, x5, x6, x7, x8, x9, x10⟩ := hd_cells Hb.out; replace x8 : w'.cell? ⟨hb0, 8, none⟩ = some (.int .u8 (t.toNat : Int)) := x8; have yf := Hb.out.free 5)
          | (go_at_call 100; replace Hb := Lib.hid (gR_2 Hb.out); replace HT := Lib.hid (set_stp HT.out hhb 5 (.int .i64 (getV (sub l 116 8)))); replace Hz := Lib.hid (Hz.out.far (p := ⟨hb0, 5, none⟩) hne (.int .i64 (getV (sub l 116 8)))); clear x0 x1 x2 x3 x4 x5 x6 x7 x8 x9 x10 yf; (with_reducible refine (rget_s (sub l 124 12) _ _ (rd_sub (Ha.out.keep HT.out) (i := 124) (n := 12) (by have := H512.out; omega)) (by rw [sub_length (by have := H512.out; omega)]; omega)).mono ?_); rintro e w' ⟨rfl, hs⟩; replace Hb := Lib.hid (Hb.out.keep hs Hb.out.lt); replace HT := Lib.hid (Stp.trans HT.out hs); replace Hz := Lib.hid (Hz.out.keep hs Hz.out.lt); clear hs; obtain ⟨x0, x1, x2, x3, x4, x5, x6, x7, x8, x9, x10⟩ := hd_cells Hb.out; replace x8 : w'.cell? ⟨hb0, 8, none⟩ = some (.int .u8 (t.toNat : Int)) := x8; have yf := Hb.out.free 6)
          | (go_at_call 100; replace Hb := Lib.hid (gR_3 Hb.out); replace HT := Lib.hid (set_stp HT.out hhb 6 (.int .i64 (getV (sub l 124 12)))); replace Hz := Lib.hid (Hz.out.far (p := ⟨hb0, 6, none⟩) hne (.int .i64 (getV (sub l 124 12)))); clear x0 x1 x2 x3 x4 x5 x6 x7 x8 x9 x10 yf; (with_reducible refine (rget_s (sub l 136 12) _ _ (rd_sub (Ha.out.keep HT.out) (i := 136) (n := 12) (by have := H512.out; omega)) (by rw [sub_length (by have := H512.out; omega)]; omega)).mono ?_); rintro e w' ⟨rfl, hs⟩; replace Hb := Lib.hid (Hb.out.keep hs Hb.out.lt); replace HT := Lib.hid (Stp.trans HT.out hs); replace Hz := Lib.hid (Hz.out.keep hs Hz.out.lt); clear hs; obtain ⟨x0, x1, x2, x3, x4, x5, x6, x7, x8, x9, x10⟩ := hd_cells Hb.out; replace x8 : w'.cell? ⟨hb0, 8, none⟩ = some (.int .u8 (t.toNat : Int)) := x8; have yf := Hb.out.free 7)
          | (go_at_call 99; replace Hb := Lib.hid (gR_4 Hb.out); replace HT := Lib.hid (set_stp HT.out hhb 7 (.int .i64 (getV (sub l 136 12)))); replace Hz := Lib.hid (Hz.out.far (p := ⟨hb0, 7, none⟩) hne (.int .i64 (getV (sub l 136 12)))); clear x0 x1 x2 x3 x4 x5 x6 x7 x8 x9 x10 yf; (with_reducible refine (rupto_v (sub l 345 155) _ _ (rd_sub (Ha.out.keep HT.out) (i := 345) (n := 155) (by have := H512.out; omega)) (by rw [sub_length (by have := H512.out; omega)]; omega)).mono ?_); rintro e w' ⟨rfl, hs⟩; replace Hb := Lib.hid (Hb.out.keep hs Hb.out.lt); replace HT := Lib.hid (Stp.trans HT.out hs); replace Hz := Lib.hid (Hz.out.keep hs Hz.out.lt); clear hs; obtain ⟨-, x1, -, -, -, -, -, -, -, -, -⟩ := hd_cells Hb.out; obtain ⟨x0, x2, x3, x4, x5, x6, x7, x8, x9, x10, hre⟩ := fin_n Hb.out (Hend.out.2 H77.out); rw [hre]; clear hre; have yf := Hb.out.free 1; obtain ⟨⟨z0, z1, z2, z3, z4, z5, z6, z7, z8, z9, z10⟩, ⟨y0, y1, y2, y3, y4, y5, y6, y7, y8, y9, y10⟩⟩ := zy Hz.out))
        have hz9 := Hz.out.far (p := ⟨hb0, 1, none⟩) hne (.string ⟨H.pre.toArray⟩)
        have hf := fill_blk H hz9
        have hst := fill_stp (g := gz) H (Stp.trans H1.out (set_stp HT.out hhb 1 (.string ⟨H.pre.toArray⟩))) (by omega)
        change bodyPost _ _ _ _ _ (fillW (w'.setCell ⟨hb0, 1, none⟩ (.string ⟨H.pre.toArray⟩)) gz H)
        generalize fillW (w'.setCell ⟨hb0, 1, none⟩ (.string ⟨H.pre.toArray⟩)) gz H = W at hf hst ⊢
        clear x0 x1 x2 x3 x4 x5 x6 x7 x8 x9 x10 yf z0 z1 z2 z3 z4 z5 z6 z7 z8 z9 z10 y0 y1 y2 y3 y4 y5 y6 y7 y8 y9 y10 g77 hs1 hs0
        obtain ⟨p0, p1, p2, p3, p4, p5, p6, p7, p8, p9, p10⟩ := hd_cells hf
        refine bodyPost_ret (v := hv H) (by simp [results, Tryz.results80, go_sem, *]) rfl ⟨rfl, hst⟩
    · go_simp
      have hb : Blk (wx.alloc (.cells (hcells zeroH) 40)) wx.heap.size 40 (hcells zeroH) := Blk.new wx 40 (hcells zeroH)
      have ta : Stp w1 (wx.alloc (.cells (hcells zeroH) 40)) := Stp.alloc (T1.out) _
      have hlb : wx.heap.size < (wx.alloc (.cells (hcells zeroH) 40)).heap.size := by simp
      refine hK.out _ (wx.alloc (.cells (hcells zeroH) 40)) (Key.out _ (ta)) (fun hHeld2 => ?_)
      clear hK K hHeld
      have hHeld := hHeld2
      clear hHeld2
      try simp only [Act.put, List.setIfInBounds_toArray, List.set_cons_zero, List.set_cons_succ]
      generalize wx.alloc (.cells (hcells zeroH) 40) = wa at hb ta hlb hHeld ⊢
      obtain ⟨hb0, hq⟩ : ∃ x, wx.heap.size = x := ⟨_, rfl⟩
      have hhb : w1.heap.size ≤ hb0 := by rw [← hq]; exact (T1.out).size
      rw [hq] at hb hlb ⊢
      clear hq
      have Hb := Lib.hid hb
      have Ta := Lib.hid ta
      clear hb ta
      refine wpAnyH_ready (rs := [5]) (by kernel_rfl) (by simp) ?_
      refine AllReadyH.cons (o := { dst := some 9, op := Go.Op.call { callee := Go.Callee.value (Go.Operand.func 99), args := #[Go.Operand.tmp 8], argTypes := #[36] }, type := 9, pos := "ref.go:122", after := #[{ on := 4, ground := Go.Ground.data }, { on := 2, ground := Go.Ground.chain }], guard := none }) rfl (fun K hK => ?_) AllReadyH.nil
      go_simp
      refine (rupto_v (sub l 157 100) _ _ (rd_sub (Ha.out.keep (Ta.out)) (i := 157) (n := 100) (by have := H512.out; omega)) (by rw [sub_length (by have := H512.out; omega)]; omega)).mono ?_
      rintro e wz ⟨rfl, hs⟩
      have T2 := Lib.hid (Stp.trans (Ta.out) hs)
      replace Hb := Lib.hid (Hb.out.keep hs Hb.out.lt)
      clear hs
      go_wp2_with fail
      refine hK.out _ _ (Key.out _ (T2.out)) (fun hHeld2 => ?_)
      clear hK K hHeld
      have hHeld := hHeld2
      clear hHeld2
      try simp only [Act.put, List.setIfInBounds_toArray, List.set_cons_zero, List.set_cons_succ]
      refine wpAnyH_take (i := 9) (oi := { dst := some 13, op := Go.Op.build 40 #[(0, Go.Operand.tmp 6), (2, Go.Operand.tmp 9), (8, Go.Operand.tmp 12)], type := 40, pos := "ref.go:122", after := #[{ on := 2, ground := Go.Ground.data }, { on := 5, ground := Go.Ground.data }, { on := 8, ground := Go.Ground.data }], guard := none }) (v := ?v9q) rfl (by kernel_rfl) (by kernel_rfl) (by kernel_rfl) (fun _ _ _ h => h) (Or.inl ⟨by rfl, ?hy9q⟩) (by assumption) ?rest9q
      case hy9q => (intro w hSw; (try dsimp only at hSw); go_simp; try with_reducible rfl)
      try simp only [Act.put, List.setIfInBounds_toArray, List.set_cons_zero, List.set_cons_succ]
      refine wpAnyH_ready (rs := [11]) (by kernel_rfl) (by simp) ?_
      refine AllReadyH.cons (o := { dst := none, op := Go.Op.store 40 (Go.Operand.tmp 3) (Go.Operand.tmp 13), type := 0, pos := "ref.go:122", after := #[{ on := 10, ground := Go.Ground.data }, { on := 9, ground := Go.Ground.data }, { on := 5, ground := Go.Ground.chain }, { on := 0, ground := Go.Ground.phase }, { on := 1, ground := Go.Ground.phase }, { on := 2, ground := Go.Ground.phase }, { on := 3, ground := Go.Ground.phase }, { on := 4, ground := Go.Ground.phase }, { on := 5, ground := Go.Ground.phase }, { on := 6, ground := Go.Ground.phase }, { on := 7, ground := Go.Ground.phase }, { on := 8, ground := Go.Ground.phase }, { on := 9, ground := Go.Ground.phase }, { on := 10, ground := Go.Ground.phase }], guard := none }) rfl (fun K hK => ?_) AllReadyH.nil
      obtain ⟨⟨z0, z1, z2, z3, z4, z5, z6, z7, z8, z9, z10⟩, ⟨y0, y1, y2, y3, y4, y5, y6, y7, y8, y9, y10⟩⟩ := zy Hb.out
      go_simp
      (try go_wp2_with fail)
      have hf := fill_blk (gR l t false 0) Hb.out
      have hst := fill_stp (g := hb0) (gR l t false 0) T2.out (by omega)
      clear z0 z1 z2 z3 z4 z5 z6 z7 z8 z9 z10 y0 y1 y2 y3 y4 y5 y6 y7 y8 y9 y10
      refine hK.out _ (fillW wz hb0 (gR l t false 0)) (Key.out _ hst) (fun hHeld2 => ?_)
      have Hz := Lib.hid (Hz1.out.keep hst Hz1.out.lt)
      clear hK K hHeld hHeld2 Hb
      generalize fillW wz hb0 (gR l t false 0) = W0 at hf hst Hz ⊢
      have Hb := Lib.hid hf
      have HT := Lib.hid hst
      clear hf hst
      try simp only [Act.put, List.setIfInBounds_toArray, List.set_cons_zero, List.set_cons_succ]
      refine wpAnyH_done (by kernel_rfl) ?_ _
      have hne : gz ≠ hb0 := by omega
      have hs2 := Hs2.out
      have hs3 := Hs3.out
      have hs4 := Hs4.out
      have hs5 := Hs5.out
      have hs6 := Hs6.out
      have hs7 := Hs7.out
      have hs8 := Hs8.out
      have hs9 := Hs9.out
      by_cases h77 : t = 77
      · have g77 : ((t.toNat : Int) == 77) = true := by rw [is77]; exact decide_eq_true h77
        have H77 := Lib.hid h77
        clear h77
        have Hb := Lib.hid (show Blk W0 hb0 40 (hcells (gR l t true 0)) from Hb.out)
        go_wp2_with (first
          | (go_at_call 100; (with_reducible refine (rget_s (sub l 100 8) _ _ (rd_sub (Ha.out.keep HT.out) (i := 100) (n := 8) (by have := H512.out; omega)) (by rw [sub_length (by have := H512.out; omega)]; omega)).mono ?_); rintro e w' ⟨rfl, hs⟩; replace Hb := Lib.hid (Hb.out.keep hs Hb.out.lt); replace HT := Lib.hid (Stp.trans HT.out hs); replace Hz := Lib.hid (Hz.out.keep hs Hz.out.lt); clear hs; obtain ⟨x0, x1, x2, x3, x4, x5, x6, x7, x8, x9, x10⟩ := hd_cells Hb.out; replace x8 : w'.cell? ⟨hb0, 8, none⟩ = some (.int .u8 (t.toNat : Int)) := x8; have yf := Hb.out.free 3)
          | (go_at_call 100; replace Hb := Lib.hid (gR_0 Hb.out); replace HT := Lib.hid (set_stp HT.out hhb 3 (.int .i64 (getV (sub l 100 8)))); replace Hz := Lib.hid (Hz.out.far (p := ⟨hb0, 3, none⟩) hne (.int .i64 (getV (sub l 100 8)))); clear x0 x1 x2 x3 x4 x5 x6 x7 x8 x9 x10 yf; (with_reducible refine (rget_s (sub l 108 8) _ _ (rd_sub (Ha.out.keep HT.out) (i := 108) (n := 8) (by have := H512.out; omega)) (by rw [sub_length (by have := H512.out; omega)]; omega)).mono ?_); rintro e w' ⟨rfl, hs⟩; replace Hb := Lib.hid (Hb.out.keep hs Hb.out.lt); replace HT := Lib.hid (Stp.trans HT.out hs); replace Hz := Lib.hid (Hz.out.keep hs Hz.out.lt); clear hs; obtain ⟨x0, x1, x2, x3, x4, x5, x6, x7, x8, x9, x10⟩ := hd_cells Hb.out; replace x8 : w'.cell? ⟨hb0, 8, none⟩ = some (.int .u8 (t.toNat : Int)) := x8; have yf := Hb.out.free 4)
          | (go_at_call 100; replace Hb := Lib.hid (gR_1 Hb.out); replace HT := Lib.hid (set_stp HT.out hhb 4 (.int .i64 (getV (sub l 108 8)))); replace Hz := Lib.hid (Hz.out.far (p := ⟨hb0, 4, none⟩) hne (.int .i64 (getV (sub l 108 8)))); clear x0 x1 x2 x3 x4 x5 x6 x7 x8 x9 x10 yf; (with_reducible refine (rget_s (sub l 116 8) _ _ (rd_sub (Ha.out.keep HT.out) (i := 116) (n := 8) (by have := H512.out; omega)) (by rw [sub_length (by have := H512.out; omega)]; omega)).mono ?_); rintro e w' ⟨rfl, hs⟩; replace Hb := Lib.hid (Hb.out.keep hs Hb.out.lt); replace HT := Lib.hid (Stp.trans HT.out hs); replace Hz := Lib.hid (Hz.out.keep hs Hz.out.lt); clear hs; obtain ⟨x0, x1, x2, x3, x4, x5, x6, x7, x8, x9, x10⟩ := hd_cells Hb.out; replace x8 : w'.cell? ⟨hb0, 8, none⟩ = some (.int .u8 (t.toNat : Int)) := x8; have yf := Hb.out.free 5)
          | (go_at_call 100; replace Hb := Lib.hid (gR_2 Hb.out); replace HT := Lib.hid (set_stp HT.out hhb 5 (.int .i64 (getV (sub l 116 8)))); replace Hz := Lib.hid (Hz.out.far (p := ⟨hb0, 5, none⟩) hne (.int .i64 (getV (sub l 116 8)))); clear x0 x1 x2 x3 x4 x5 x6 x7 x8 x9 x10 yf; (with_reducible refine (rget_s (sub l 124 12) _ _ (rd_sub (Ha.out.keep HT.out) (i := 124) (n := 12) (by have := H512.out; omega)) (by rw [sub_length (by have := H512.out; omega)]; omega)).mono ?_); rintro e w' ⟨rfl, hs⟩; replace Hb := Lib.hid (Hb.out.keep hs Hb.out.lt); replace HT := Lib.hid (Stp.trans HT.out hs); replace Hz := Lib.hid (Hz.out.keep hs Hz.out.lt); clear hs; obtain ⟨x0, x1, x2, x3, x4, x5, x6, x7, x8, x9, x10⟩ := hd_cells Hb.out; replace x8 : w'.cell? ⟨hb0, 8, none⟩ = some (.int .u8 (t.toNat : Int)) := x8; have yf := Hb.out.free 6)
          | (go_at_call 100; replace Hb := Lib.hid (gR_3 Hb.out); replace HT := Lib.hid (set_stp HT.out hhb 6 (.int .i64 (getV (sub l 124 12)))); replace Hz := Lib.hid (Hz.out.far (p := ⟨hb0, 6, none⟩) hne (.int .i64 (getV (sub l 124 12)))); clear x0 x1 x2 x3 x4 x5 x6 x7 x8 x9 x10 yf; (with_reducible refine (rget_s (sub l 136 12) _ _ (rd_sub (Ha.out.keep HT.out) (i := 136) (n := 12) (by have := H512.out; omega)) (by rw [sub_length (by have := H512.out; omega)]; omega)).mono ?_); rintro e w' ⟨rfl, hs⟩; replace Hb := Lib.hid (Hb.out.keep hs Hb.out.lt); replace HT := Lib.hid (Stp.trans HT.out hs); replace Hz := Lib.hid (Hz.out.keep hs Hz.out.lt); clear hs; obtain ⟨x0, x1, x2, x3, x4, x5, x6, x7, x8, x9, x10⟩ := hd_cells Hb.out; replace x8 : w'.cell? ⟨hb0, 8, none⟩ = some (.int .u8 (t.toNat : Int)) := x8; have yf := Hb.out.free 7)
          | (go_at_call 100; replace Hb := Lib.hid (gR_4 Hb.out); replace HT := Lib.hid (set_stp HT.out hhb 7 (.int .i64 (getV (sub l 136 12)))); replace Hz := Lib.hid (Hz.out.far (p := ⟨hb0, 7, none⟩) hne (.int .i64 (getV (sub l 136 12)))); clear x0 x1 x2 x3 x4 x5 x6 x7 x8 x9 x10 yf; (with_reducible refine (rget_s (sub l 369 12) _ _ (rd_sub (Ha.out.keep HT.out) (i := 369) (n := 12) (by have := H512.out; omega)) (by rw [sub_length (by have := H512.out; omega)]; omega)).mono ?_); rintro e w' ⟨rfl, hs⟩; replace Hb := Lib.hid (Hb.out.keep hs Hb.out.lt); replace HT := Lib.hid (Stp.trans HT.out hs); replace Hz := Lib.hid (Hz.out.keep hs Hz.out.lt); clear hs; obtain ⟨x0, x1, x2, x3, x4, x5, x6, x7, x8, x9, x10⟩ := hd_cells Hb.out; replace x8 : w'.cell? ⟨hb0, 8, none⟩ = some (.int .u8 (t.toNat : Int)) := x8; have yf := Hb.out.free 9)
          | (go_at_call 100; replace Hb := Lib.hid (gR_5m Hb.out); replace HT := Lib.hid (set_stp HT.out hhb 9 (.int .i64 (getV (sub l 369 12)))); replace Hz := Lib.hid (Hz.out.far (p := ⟨hb0, 9, none⟩) hne (.int .i64 (getV (sub l 369 12)))); clear x0 x1 x2 x3 x4 x5 x6 x7 x8 x9 x10 yf; (with_reducible refine (rget_s (sub l 483 12) _ _ (rd_sub (Ha.out.keep HT.out) (i := 483) (n := 12) (by have := H512.out; omega)) (by rw [sub_length (by have := H512.out; omega)]; omega)).mono ?_); rintro e w' ⟨rfl, hs⟩; replace Hb := Lib.hid (Hb.out.keep hs Hb.out.lt); replace HT := Lib.hid (Stp.trans HT.out hs); replace Hz := Lib.hid (Hz.out.keep hs Hz.out.lt); clear hs; obtain ⟨-, -, -, -, -, -, -, -, -, -, x10⟩ := hd_cells Hb.out; obtain ⟨x0, x1, x2, x3, x4, x5, x6, x7, x8, x9, hre⟩ := fin_m Hb.out (Hend.out.1 H77.out); rw [hre]; clear hre; have yf := Hb.out.free 10; obtain ⟨⟨z0, z1, z2, z3, z4, z5, z6, z7, z8, z9, z10⟩, ⟨y0, y1, y2, y3, y4, y5, y6, y7, y8, y9, y10⟩⟩ := zy Hz.out))
        have hz9 := Hz.out.far (p := ⟨hb0, 10, none⟩) hne (.int .i64 H.real)
        have hf := fill_blk H hz9
        have hst := fill_stp (g := gz) H (Stp.trans H1.out (set_stp HT.out hhb 10 (.int .i64 H.real))) (by omega)
        change bodyPost _ _ _ _ _ (fillW (w'.setCell ⟨hb0, 10, none⟩ (.int .i64 H.real)) gz H)
        generalize fillW (w'.setCell ⟨hb0, 10, none⟩ (.int .i64 H.real)) gz H = W at hf hst ⊢
        clear x0 x1 x2 x3 x4 x5 x6 x7 x8 x9 x10 yf z0 z1 z2 z3 z4 z5 z6 z7 z8 z9 z10 y0 y1 y2 y3 y4 y5 y6 y7 y8 y9 y10 g77 hs1 hs0
        obtain ⟨p0, p1, p2, p3, p4, p5, p6, p7, p8, p9, p10⟩ := hd_cells hf
        refine bodyPost_ret (v := hv H) (by simp [results, Tryz.results80, go_sem, *]) rfl ⟨rfl, hst⟩
      · have g77 : ((t.toNat : Int) == 77) = false := by rw [is77]; exact decide_eq_false h77
        have H77 := Lib.hid h77
        clear h77
        have Hb := Lib.hid (show Blk W0 hb0 40 (hcells (gR l t false 0)) from Hb.out)
        go_wp2_with (first
          | (go_at_call 100; (with_reducible refine (rget_s (sub l 100 8) _ _ (rd_sub (Ha.out.keep HT.out) (i := 100) (n := 8) (by have := H512.out; omega)) (by rw [sub_length (by have := H512.out; omega)]; omega)).mono ?_); rintro e w' ⟨rfl, hs⟩; replace Hb := Lib.hid (Hb.out.keep hs Hb.out.lt); replace HT := Lib.hid (Stp.trans HT.out hs); replace Hz := Lib.hid (Hz.out.keep hs Hz.out.lt); clear hs; obtain ⟨x0, x1, x2, x3, x4, x5, x6, x7, x8, x9, x10⟩ := hd_cells Hb.out; replace x8 : w'.cell? ⟨hb0, 8, none⟩ = some (.int .u8 (t.toNat : Int)) := x8; have yf := Hb.out.free 3)
          | (go_at_call 100; replace Hb := Lib.hid (gR_0 Hb.out); replace HT := Lib.hid (set_stp HT.out hhb 3 (.int .i64 (getV (sub l 100 8)))); replace Hz := Lib.hid (Hz.out.far (p := ⟨hb0, 3, none⟩) hne (.int .i64 (getV (sub l 100 8)))); clear x0 x1 x2 x3 x4 x5 x6 x7 x8 x9 x10 yf; (with_reducible refine (rget_s (sub l 108 8) _ _ (rd_sub (Ha.out.keep HT.out) (i := 108) (n := 8) (by have := H512.out; omega)) (by rw [sub_length (by have := H512.out; omega)]; omega)).mono ?_); rintro e w' ⟨rfl, hs⟩; replace Hb := Lib.hid (Hb.out.keep hs Hb.out.lt); replace HT := Lib.hid (Stp.trans HT.out hs); replace Hz := Lib.hid (Hz.out.keep hs Hz.out.lt); clear hs; obtain ⟨x0, x1, x2, x3, x4, x5, x6, x7, x8, x9, x10⟩ := hd_cells Hb.out; replace x8 : w'.cell? ⟨hb0, 8, none⟩ = some (.int .u8 (t.toNat : Int)) := x8; have yf := Hb.out.free 4)
          | (go_at_call 100; replace Hb := Lib.hid (gR_1 Hb.out); replace HT := Lib.hid (set_stp HT.out hhb 4 (.int .i64 (getV (sub l 108 8)))); replace Hz := Lib.hid (Hz.out.far (p := ⟨hb0, 4, none⟩) hne (.int .i64 (getV (sub l 108 8)))); clear x0 x1 x2 x3 x4 x5 x6 x7 x8 x9 x10 yf; (with_reducible refine (rget_s (sub l 116 8) _ _ (rd_sub (Ha.out.keep HT.out) (i := 116) (n := 8) (by have := H512.out; omega)) (by rw [sub_length (by have := H512.out; omega)]; omega)).mono ?_); rintro e w' ⟨rfl, hs⟩; replace Hb := Lib.hid (Hb.out.keep hs Hb.out.lt); replace HT := Lib.hid (Stp.trans HT.out hs); replace Hz := Lib.hid (Hz.out.keep hs Hz.out.lt); clear hs; obtain ⟨x0, x1, x2, x3, x4, x5, x6, x7, x8, x9, x10⟩ := hd_cells Hb.out; replace x8 : w'.cell? ⟨hb0, 8, none⟩ = some (.int .u8 (t.toNat : Int)) := x8; have yf := Hb.out.free 5)
          | (go_at_call 100; replace Hb := Lib.hid (gR_2 Hb.out); replace HT := Lib.hid (set_stp HT.out hhb 5 (.int .i64 (getV (sub l 116 8)))); replace Hz := Lib.hid (Hz.out.far (p := ⟨hb0, 5, none⟩) hne (.int .i64 (getV (sub l 116 8)))); clear x0 x1 x2 x3 x4 x5 x6 x7 x8 x9 x10 yf; (with_reducible refine (rget_s (sub l 124 12) _ _ (rd_sub (Ha.out.keep HT.out) (i := 124) (n := 12) (by have := H512.out; omega)) (by rw [sub_length (by have := H512.out; omega)]; omega)).mono ?_); rintro e w' ⟨rfl, hs⟩; replace Hb := Lib.hid (Hb.out.keep hs Hb.out.lt); replace HT := Lib.hid (Stp.trans HT.out hs); replace Hz := Lib.hid (Hz.out.keep hs Hz.out.lt); clear hs; obtain ⟨x0, x1, x2, x3, x4, x5, x6, x7, x8, x9, x10⟩ := hd_cells Hb.out; replace x8 : w'.cell? ⟨hb0, 8, none⟩ = some (.int .u8 (t.toNat : Int)) := x8; have yf := Hb.out.free 6)
          | (go_at_call 100; replace Hb := Lib.hid (gR_3 Hb.out); replace HT := Lib.hid (set_stp HT.out hhb 6 (.int .i64 (getV (sub l 124 12)))); replace Hz := Lib.hid (Hz.out.far (p := ⟨hb0, 6, none⟩) hne (.int .i64 (getV (sub l 124 12)))); clear x0 x1 x2 x3 x4 x5 x6 x7 x8 x9 x10 yf; (with_reducible refine (rget_s (sub l 136 12) _ _ (rd_sub (Ha.out.keep HT.out) (i := 136) (n := 12) (by have := H512.out; omega)) (by rw [sub_length (by have := H512.out; omega)]; omega)).mono ?_); rintro e w' ⟨rfl, hs⟩; replace Hb := Lib.hid (Hb.out.keep hs Hb.out.lt); replace HT := Lib.hid (Stp.trans HT.out hs); replace Hz := Lib.hid (Hz.out.keep hs Hz.out.lt); clear hs; obtain ⟨x0, x1, x2, x3, x4, x5, x6, x7, x8, x9, x10⟩ := hd_cells Hb.out; replace x8 : w'.cell? ⟨hb0, 8, none⟩ = some (.int .u8 (t.toNat : Int)) := x8; have yf := Hb.out.free 7)
          | (go_at_call 99; replace Hb := Lib.hid (gR_4 Hb.out); replace HT := Lib.hid (set_stp HT.out hhb 7 (.int .i64 (getV (sub l 136 12)))); replace Hz := Lib.hid (Hz.out.far (p := ⟨hb0, 7, none⟩) hne (.int .i64 (getV (sub l 136 12)))); clear x0 x1 x2 x3 x4 x5 x6 x7 x8 x9 x10 yf; (with_reducible refine (rupto_v (sub l 345 155) _ _ (rd_sub (Ha.out.keep HT.out) (i := 345) (n := 155) (by have := H512.out; omega)) (by rw [sub_length (by have := H512.out; omega)]; omega)).mono ?_); rintro e w' ⟨rfl, hs⟩; replace Hb := Lib.hid (Hb.out.keep hs Hb.out.lt); replace HT := Lib.hid (Stp.trans HT.out hs); replace Hz := Lib.hid (Hz.out.keep hs Hz.out.lt); clear hs; obtain ⟨-, x1, -, -, -, -, -, -, -, -, -⟩ := hd_cells Hb.out; obtain ⟨x0, x2, x3, x4, x5, x6, x7, x8, x9, x10, hre⟩ := fin_n Hb.out (Hend.out.2 H77.out); rw [hre]; clear hre; have yf := Hb.out.free 1; obtain ⟨⟨z0, z1, z2, z3, z4, z5, z6, z7, z8, z9, z10⟩, ⟨y0, y1, y2, y3, y4, y5, y6, y7, y8, y9, y10⟩⟩ := zy Hz.out))
        have hz9 := Hz.out.far (p := ⟨hb0, 1, none⟩) hne (.string ⟨H.pre.toArray⟩)
        have hf := fill_blk H hz9
        have hst := fill_stp (g := gz) H (Stp.trans H1.out (set_stp HT.out hhb 1 (.string ⟨H.pre.toArray⟩))) (by omega)
        change bodyPost _ _ _ _ _ (fillW (w'.setCell ⟨hb0, 1, none⟩ (.string ⟨H.pre.toArray⟩)) gz H)
        generalize fillW (w'.setCell ⟨hb0, 1, none⟩ (.string ⟨H.pre.toArray⟩)) gz H = W at hf hst ⊢
        clear x0 x1 x2 x3 x4 x5 x6 x7 x8 x9 x10 yf z0 z1 z2 z3 z4 z5 z6 z7 z8 z9 z10 y0 y1 y2 y3 y4 y5 y6 y7 y8 y9 y10 g77 hs1 hs0
        obtain ⟨p0, p1, p2, p3, p4, p5, p6, p7, p8, p9, p10⟩ := hd_cells hf
        refine bodyPost_ret (v := hv H) (by simp [results, Tryz.results80, go_sem, *]) rfl ⟨rfl, hst⟩
  · go_simp
    have hb : Blk (w1.drew.alloc (.cells (hcells zeroH) 40)) w1.heap.size 40 (hcells zeroH) := Blk.new w1.drew 40 (hcells zeroH)
    have ta : Stp w1 (w1.drew.alloc (.cells (hcells zeroH) 40)) := Stp.alloc (stp_drew (Stp.refl w1)) _
    have hlb : w1.heap.size < (w1.drew.alloc (.cells (hcells zeroH) 40)).heap.size := by simp
    refine hK.out _ (w1.drew.alloc (.cells (hcells zeroH) 40)) (Key.out _ (ta)) (fun hHeld2 => ?_)
    clear hK K hHeld
    have hHeld := hHeld2
    clear hHeld2
    try simp only [Act.put, List.setIfInBounds_toArray, List.set_cons_zero, List.set_cons_succ]
    generalize w1.drew.alloc (.cells (hcells zeroH) 40) = wa at hb ta hlb hHeld ⊢
    obtain ⟨hb0, hq⟩ : ∃ x, w1.heap.size = x := ⟨_, rfl⟩
    have hhb : w1.heap.size ≤ hb0 := by rw [← hq]; exact (stp_drew (Stp.refl w1)).size
    rw [hq] at hb hlb ⊢
    clear hq
    have Hb := Lib.hid hb
    have Ta := Lib.hid ta
    clear hb ta
    refine wpAnyH_ready (rs := [2]) (by kernel_rfl) (by simp) ?_
    refine AllReadyH.cons (o := { dst := some 6, op := Go.Op.call { callee := Go.Callee.value (Go.Operand.func 99), args := #[Go.Operand.tmp 5], argTypes := #[36] }, type := 9, pos := "ref.go:122", after := #[{ on := 1, ground := Go.Ground.data }], guard := none }) rfl (fun K hK => ?_) AllReadyH.nil
    go_simp
    refine (rupto_v (sub l 0 100) _ _ (rd_head (Ha.out.keep (Ta.out)) (by have := H512.out; omega)) (by rw [sub_length (by have := H512.out; omega)]; omega)).mono ?_
    rintro e wx ⟨rfl, hs⟩
    have T1 := Lib.hid (Stp.trans (Ta.out) hs)
    replace Hb := Lib.hid (Hb.out.keep hs Hb.out.lt)
    clear hs
    go_wp2_with fail
    refine hK.out _ _ (Key.out _ (T1.out)) (fun hHeld2 => ?_)
    clear hK K hHeld
    have hHeld := hHeld2
    clear hHeld2
    try simp only [Act.put, List.setIfInBounds_toArray, List.set_cons_zero, List.set_cons_succ]
    refine wpAnyH_ready (rs := [5]) (by kernel_rfl) (by simp) ?_
    refine AllReadyH.cons (o := { dst := some 9, op := Go.Op.call { callee := Go.Callee.value (Go.Operand.func 99), args := #[Go.Operand.tmp 8], argTypes := #[36] }, type := 9, pos := "ref.go:122", after := #[{ on := 4, ground := Go.Ground.data }, { on := 2, ground := Go.Ground.chain }], guard := none }) rfl (fun K hK => ?_) AllReadyH.nil
    go_simp
    refine (rupto_v (sub l 157 100) _ _ (rd_sub (Ha.out.keep (T1.out)) (i := 157) (n := 100) (by have := H512.out; omega)) (by rw [sub_length (by have := H512.out; omega)]; omega)).mono ?_
    rintro e wz ⟨rfl, hs⟩
    have T2 := Lib.hid (Stp.trans (T1.out) hs)
    replace Hb := Lib.hid (Hb.out.keep hs Hb.out.lt)
    clear hs
    go_wp2_with fail
    refine hK.out _ _ (Key.out _ (T2.out)) (fun hHeld2 => ?_)
    clear hK K hHeld
    have hHeld := hHeld2
    clear hHeld2
    try simp only [Act.put, List.setIfInBounds_toArray, List.set_cons_zero, List.set_cons_succ]
    refine wpAnyH_take (i := 9) (oi := { dst := some 13, op := Go.Op.build 40 #[(0, Go.Operand.tmp 6), (2, Go.Operand.tmp 9), (8, Go.Operand.tmp 12)], type := 40, pos := "ref.go:122", after := #[{ on := 2, ground := Go.Ground.data }, { on := 5, ground := Go.Ground.data }, { on := 8, ground := Go.Ground.data }], guard := none }) (v := ?v9r) rfl (by kernel_rfl) (by kernel_rfl) (by kernel_rfl) (fun _ _ _ h => h) (Or.inl ⟨by rfl, ?hy9r⟩) (by assumption) ?rest9r
    case hy9r => (intro w hSw; (try dsimp only at hSw); go_simp; try with_reducible rfl)
    try simp only [Act.put, List.setIfInBounds_toArray, List.set_cons_zero, List.set_cons_succ]
    refine wpAnyH_ready (rs := [11]) (by kernel_rfl) (by simp) ?_
    refine AllReadyH.cons (o := { dst := none, op := Go.Op.store 40 (Go.Operand.tmp 3) (Go.Operand.tmp 13), type := 0, pos := "ref.go:122", after := #[{ on := 10, ground := Go.Ground.data }, { on := 9, ground := Go.Ground.data }, { on := 5, ground := Go.Ground.chain }, { on := 0, ground := Go.Ground.phase }, { on := 1, ground := Go.Ground.phase }, { on := 2, ground := Go.Ground.phase }, { on := 3, ground := Go.Ground.phase }, { on := 4, ground := Go.Ground.phase }, { on := 5, ground := Go.Ground.phase }, { on := 6, ground := Go.Ground.phase }, { on := 7, ground := Go.Ground.phase }, { on := 8, ground := Go.Ground.phase }, { on := 9, ground := Go.Ground.phase }, { on := 10, ground := Go.Ground.phase }], guard := none }) rfl (fun K hK => ?_) AllReadyH.nil
    obtain ⟨⟨z0, z1, z2, z3, z4, z5, z6, z7, z8, z9, z10⟩, ⟨y0, y1, y2, y3, y4, y5, y6, y7, y8, y9, y10⟩⟩ := zy Hb.out
    go_simp
    (try go_wp2_with fail)
    have hf := fill_blk (gR l t false 0) Hb.out
    have hst := fill_stp (g := hb0) (gR l t false 0) T2.out (by omega)
    clear z0 z1 z2 z3 z4 z5 z6 z7 z8 z9 z10 y0 y1 y2 y3 y4 y5 y6 y7 y8 y9 y10
    refine hK.out _ (fillW wz hb0 (gR l t false 0)) (Key.out _ hst) (fun hHeld2 => ?_)
    have Hz := Lib.hid (Hz1.out.keep hst Hz1.out.lt)
    clear hK K hHeld hHeld2 Hb
    generalize fillW wz hb0 (gR l t false 0) = W0 at hf hst Hz ⊢
    have Hb := Lib.hid hf
    have HT := Lib.hid hst
    clear hf hst
    try simp only [Act.put, List.setIfInBounds_toArray, List.set_cons_zero, List.set_cons_succ]
    refine wpAnyH_done (by kernel_rfl) ?_ _
    have hne : gz ≠ hb0 := by omega
    have hs2 := Hs2.out
    have hs3 := Hs3.out
    have hs4 := Hs4.out
    have hs5 := Hs5.out
    have hs6 := Hs6.out
    have hs7 := Hs7.out
    have hs8 := Hs8.out
    have hs9 := Hs9.out
    by_cases h77 : t = 77
    · have g77 : ((t.toNat : Int) == 77) = true := by rw [is77]; exact decide_eq_true h77
      have H77 := Lib.hid h77
      clear h77
      have Hb := Lib.hid (show Blk W0 hb0 40 (hcells (gR l t true 0)) from Hb.out)
      go_wp2_with (first
        | (go_at_call 100; (with_reducible refine (rget_s (sub l 100 8) _ _ (rd_sub (Ha.out.keep HT.out) (i := 100) (n := 8) (by have := H512.out; omega)) (by rw [sub_length (by have := H512.out; omega)]; omega)).mono ?_); rintro e w' ⟨rfl, hs⟩; replace Hb := Lib.hid (Hb.out.keep hs Hb.out.lt); replace HT := Lib.hid (Stp.trans HT.out hs); replace Hz := Lib.hid (Hz.out.keep hs Hz.out.lt); clear hs; obtain ⟨x0, x1, x2, x3, x4, x5, x6, x7, x8, x9, x10⟩ := hd_cells Hb.out; replace x8 : w'.cell? ⟨hb0, 8, none⟩ = some (.int .u8 (t.toNat : Int)) := x8; have yf := Hb.out.free 3)
        | (go_at_call 100; replace Hb := Lib.hid (gR_0 Hb.out); replace HT := Lib.hid (set_stp HT.out hhb 3 (.int .i64 (getV (sub l 100 8)))); replace Hz := Lib.hid (Hz.out.far (p := ⟨hb0, 3, none⟩) hne (.int .i64 (getV (sub l 100 8)))); clear x0 x1 x2 x3 x4 x5 x6 x7 x8 x9 x10 yf; (with_reducible refine (rget_s (sub l 108 8) _ _ (rd_sub (Ha.out.keep HT.out) (i := 108) (n := 8) (by have := H512.out; omega)) (by rw [sub_length (by have := H512.out; omega)]; omega)).mono ?_); rintro e w' ⟨rfl, hs⟩; replace Hb := Lib.hid (Hb.out.keep hs Hb.out.lt); replace HT := Lib.hid (Stp.trans HT.out hs); replace Hz := Lib.hid (Hz.out.keep hs Hz.out.lt); clear hs; obtain ⟨x0, x1, x2, x3, x4, x5, x6, x7, x8, x9, x10⟩ := hd_cells Hb.out; replace x8 : w'.cell? ⟨hb0, 8, none⟩ = some (.int .u8 (t.toNat : Int)) := x8; have yf := Hb.out.free 4)
        | (go_at_call 100; replace Hb := Lib.hid (gR_1 Hb.out); replace HT := Lib.hid (set_stp HT.out hhb 4 (.int .i64 (getV (sub l 108 8)))); replace Hz := Lib.hid (Hz.out.far (p := ⟨hb0, 4, none⟩) hne (.int .i64 (getV (sub l 108 8)))); clear x0 x1 x2 x3 x4 x5 x6 x7 x8 x9 x10 yf; (with_reducible refine (rget_s (sub l 116 8) _ _ (rd_sub (Ha.out.keep HT.out) (i := 116) (n := 8) (by have := H512.out; omega)) (by rw [sub_length (by have := H512.out; omega)]; omega)).mono ?_); rintro e w' ⟨rfl, hs⟩; replace Hb := Lib.hid (Hb.out.keep hs Hb.out.lt); replace HT := Lib.hid (Stp.trans HT.out hs); replace Hz := Lib.hid (Hz.out.keep hs Hz.out.lt); clear hs; obtain ⟨x0, x1, x2, x3, x4, x5, x6, x7, x8, x9, x10⟩ := hd_cells Hb.out; replace x8 : w'.cell? ⟨hb0, 8, none⟩ = some (.int .u8 (t.toNat : Int)) := x8; have yf := Hb.out.free 5)
        | (go_at_call 100; replace Hb := Lib.hid (gR_2 Hb.out); replace HT := Lib.hid (set_stp HT.out hhb 5 (.int .i64 (getV (sub l 116 8)))); replace Hz := Lib.hid (Hz.out.far (p := ⟨hb0, 5, none⟩) hne (.int .i64 (getV (sub l 116 8)))); clear x0 x1 x2 x3 x4 x5 x6 x7 x8 x9 x10 yf; (with_reducible refine (rget_s (sub l 124 12) _ _ (rd_sub (Ha.out.keep HT.out) (i := 124) (n := 12) (by have := H512.out; omega)) (by rw [sub_length (by have := H512.out; omega)]; omega)).mono ?_); rintro e w' ⟨rfl, hs⟩; replace Hb := Lib.hid (Hb.out.keep hs Hb.out.lt); replace HT := Lib.hid (Stp.trans HT.out hs); replace Hz := Lib.hid (Hz.out.keep hs Hz.out.lt); clear hs; obtain ⟨x0, x1, x2, x3, x4, x5, x6, x7, x8, x9, x10⟩ := hd_cells Hb.out; replace x8 : w'.cell? ⟨hb0, 8, none⟩ = some (.int .u8 (t.toNat : Int)) := x8; have yf := Hb.out.free 6)
        | (go_at_call 100; replace Hb := Lib.hid (gR_3 Hb.out); replace HT := Lib.hid (set_stp HT.out hhb 6 (.int .i64 (getV (sub l 124 12)))); replace Hz := Lib.hid (Hz.out.far (p := ⟨hb0, 6, none⟩) hne (.int .i64 (getV (sub l 124 12)))); clear x0 x1 x2 x3 x4 x5 x6 x7 x8 x9 x10 yf; (with_reducible refine (rget_s (sub l 136 12) _ _ (rd_sub (Ha.out.keep HT.out) (i := 136) (n := 12) (by have := H512.out; omega)) (by rw [sub_length (by have := H512.out; omega)]; omega)).mono ?_); rintro e w' ⟨rfl, hs⟩; replace Hb := Lib.hid (Hb.out.keep hs Hb.out.lt); replace HT := Lib.hid (Stp.trans HT.out hs); replace Hz := Lib.hid (Hz.out.keep hs Hz.out.lt); clear hs; obtain ⟨x0, x1, x2, x3, x4, x5, x6, x7, x8, x9, x10⟩ := hd_cells Hb.out; replace x8 : w'.cell? ⟨hb0, 8, none⟩ = some (.int .u8 (t.toNat : Int)) := x8; have yf := Hb.out.free 7)
        | (go_at_call 100; replace Hb := Lib.hid (gR_4 Hb.out); replace HT := Lib.hid (set_stp HT.out hhb 7 (.int .i64 (getV (sub l 136 12)))); replace Hz := Lib.hid (Hz.out.far (p := ⟨hb0, 7, none⟩) hne (.int .i64 (getV (sub l 136 12)))); clear x0 x1 x2 x3 x4 x5 x6 x7 x8 x9 x10 yf; (with_reducible refine (rget_s (sub l 369 12) _ _ (rd_sub (Ha.out.keep HT.out) (i := 369) (n := 12) (by have := H512.out; omega)) (by rw [sub_length (by have := H512.out; omega)]; omega)).mono ?_); rintro e w' ⟨rfl, hs⟩; replace Hb := Lib.hid (Hb.out.keep hs Hb.out.lt); replace HT := Lib.hid (Stp.trans HT.out hs); replace Hz := Lib.hid (Hz.out.keep hs Hz.out.lt); clear hs; obtain ⟨x0, x1, x2, x3, x4, x5, x6, x7, x8, x9, x10⟩ := hd_cells Hb.out; replace x8 : w'.cell? ⟨hb0, 8, none⟩ = some (.int .u8 (t.toNat : Int)) := x8; have yf := Hb.out.free 9)
        | (go_at_call 100; replace Hb := Lib.hid (gR_5m Hb.out); replace HT := Lib.hid (set_stp HT.out hhb 9 (.int .i64 (getV (sub l 369 12)))); replace Hz := Lib.hid (Hz.out.far (p := ⟨hb0, 9, none⟩) hne (.int .i64 (getV (sub l 369 12)))); clear x0 x1 x2 x3 x4 x5 x6 x7 x8 x9 x10 yf; (with_reducible refine (rget_s (sub l 483 12) _ _ (rd_sub (Ha.out.keep HT.out) (i := 483) (n := 12) (by have := H512.out; omega)) (by rw [sub_length (by have := H512.out; omega)]; omega)).mono ?_); rintro e w' ⟨rfl, hs⟩; replace Hb := Lib.hid (Hb.out.keep hs Hb.out.lt); replace HT := Lib.hid (Stp.trans HT.out hs); replace Hz := Lib.hid (Hz.out.keep hs Hz.out.lt); clear hs; obtain ⟨-, -, -, -, -, -, -, -, -, -, x10⟩ := hd_cells Hb.out; obtain ⟨x0, x1, x2, x3, x4, x5, x6, x7, x8, x9, hre⟩ := fin_m Hb.out (Hend.out.1 H77.out); rw [hre]; clear hre; have yf := Hb.out.free 10; obtain ⟨⟨z0, z1, z2, z3, z4, z5, z6, z7, z8, z9, z10⟩, ⟨y0, y1, y2, y3, y4, y5, y6, y7, y8, y9, y10⟩⟩ := zy Hz.out))
      have hz9 := Hz.out.far (p := ⟨hb0, 10, none⟩) hne (.int .i64 H.real)
      have hf := fill_blk H hz9
      have hst := fill_stp (g := gz) H (Stp.trans H1.out (set_stp HT.out hhb 10 (.int .i64 H.real))) (by omega)
      change bodyPost _ _ _ _ _ (fillW (w'.setCell ⟨hb0, 10, none⟩ (.int .i64 H.real)) gz H)
      generalize fillW (w'.setCell ⟨hb0, 10, none⟩ (.int .i64 H.real)) gz H = W at hf hst ⊢
      clear x0 x1 x2 x3 x4 x5 x6 x7 x8 x9 x10 yf z0 z1 z2 z3 z4 z5 z6 z7 z8 z9 z10 y0 y1 y2 y3 y4 y5 y6 y7 y8 y9 y10 g77 hs1 hs0
      obtain ⟨p0, p1, p2, p3, p4, p5, p6, p7, p8, p9, p10⟩ := hd_cells hf
      refine bodyPost_ret (v := hv H) (by simp [results, Tryz.results80, go_sem, *]) rfl ⟨rfl, hst⟩
    · have g77 : ((t.toNat : Int) == 77) = false := by rw [is77]; exact decide_eq_false h77
      have H77 := Lib.hid h77
      clear h77
      have Hb := Lib.hid (show Blk W0 hb0 40 (hcells (gR l t false 0)) from Hb.out)
      go_wp2_with (first
        | (go_at_call 100; (with_reducible refine (rget_s (sub l 100 8) _ _ (rd_sub (Ha.out.keep HT.out) (i := 100) (n := 8) (by have := H512.out; omega)) (by rw [sub_length (by have := H512.out; omega)]; omega)).mono ?_); rintro e w' ⟨rfl, hs⟩; replace Hb := Lib.hid (Hb.out.keep hs Hb.out.lt); replace HT := Lib.hid (Stp.trans HT.out hs); replace Hz := Lib.hid (Hz.out.keep hs Hz.out.lt); clear hs; obtain ⟨x0, x1, x2, x3, x4, x5, x6, x7, x8, x9, x10⟩ := hd_cells Hb.out; replace x8 : w'.cell? ⟨hb0, 8, none⟩ = some (.int .u8 (t.toNat : Int)) := x8; have yf := Hb.out.free 3)
        | (go_at_call 100; replace Hb := Lib.hid (gR_0 Hb.out); replace HT := Lib.hid (set_stp HT.out hhb 3 (.int .i64 (getV (sub l 100 8)))); replace Hz := Lib.hid (Hz.out.far (p := ⟨hb0, 3, none⟩) hne (.int .i64 (getV (sub l 100 8)))); clear x0 x1 x2 x3 x4 x5 x6 x7 x8 x9 x10 yf; (with_reducible refine (rget_s (sub l 108 8) _ _ (rd_sub (Ha.out.keep HT.out) (i := 108) (n := 8) (by have := H512.out; omega)) (by rw [sub_length (by have := H512.out; omega)]; omega)).mono ?_); rintro e w' ⟨rfl, hs⟩; replace Hb := Lib.hid (Hb.out.keep hs Hb.out.lt); replace HT := Lib.hid (Stp.trans HT.out hs); replace Hz := Lib.hid (Hz.out.keep hs Hz.out.lt); clear hs; obtain ⟨x0, x1, x2, x3, x4, x5, x6, x7, x8, x9, x10⟩ := hd_cells Hb.out; replace x8 : w'.cell? ⟨hb0, 8, none⟩ = some (.int .u8 (t.toNat : Int)) := x8; have yf := Hb.out.free 4)
        | (go_at_call 100; replace Hb := Lib.hid (gR_1 Hb.out); replace HT := Lib.hid (set_stp HT.out hhb 4 (.int .i64 (getV (sub l 108 8)))); replace Hz := Lib.hid (Hz.out.far (p := ⟨hb0, 4, none⟩) hne (.int .i64 (getV (sub l 108 8)))); clear x0 x1 x2 x3 x4 x5 x6 x7 x8 x9 x10 yf; (with_reducible refine (rget_s (sub l 116 8) _ _ (rd_sub (Ha.out.keep HT.out) (i := 116) (n := 8) (by have := H512.out; omega)) (by rw [sub_length (by have := H512.out; omega)]; omega)).mono ?_); rintro e w' ⟨rfl, hs⟩; replace Hb := Lib.hid (Hb.out.keep hs Hb.out.lt); replace HT := Lib.hid (Stp.trans HT.out hs); replace Hz := Lib.hid (Hz.out.keep hs Hz.out.lt); clear hs; obtain ⟨x0, x1, x2, x3, x4, x5, x6, x7, x8, x9, x10⟩ := hd_cells Hb.out; replace x8 : w'.cell? ⟨hb0, 8, none⟩ = some (.int .u8 (t.toNat : Int)) := x8; have yf := Hb.out.free 5)
        | (go_at_call 100; replace Hb := Lib.hid (gR_2 Hb.out); replace HT := Lib.hid (set_stp HT.out hhb 5 (.int .i64 (getV (sub l 116 8)))); replace Hz := Lib.hid (Hz.out.far (p := ⟨hb0, 5, none⟩) hne (.int .i64 (getV (sub l 116 8)))); clear x0 x1 x2 x3 x4 x5 x6 x7 x8 x9 x10 yf; (with_reducible refine (rget_s (sub l 124 12) _ _ (rd_sub (Ha.out.keep HT.out) (i := 124) (n := 12) (by have := H512.out; omega)) (by rw [sub_length (by have := H512.out; omega)]; omega)).mono ?_); rintro e w' ⟨rfl, hs⟩; replace Hb := Lib.hid (Hb.out.keep hs Hb.out.lt); replace HT := Lib.hid (Stp.trans HT.out hs); replace Hz := Lib.hid (Hz.out.keep hs Hz.out.lt); clear hs; obtain ⟨x0, x1, x2, x3, x4, x5, x6, x7, x8, x9, x10⟩ := hd_cells Hb.out; replace x8 : w'.cell? ⟨hb0, 8, none⟩ = some (.int .u8 (t.toNat : Int)) := x8; have yf := Hb.out.free 6)
        | (go_at_call 100; replace Hb := Lib.hid (gR_3 Hb.out); replace HT := Lib.hid (set_stp HT.out hhb 6 (.int .i64 (getV (sub l 124 12)))); replace Hz := Lib.hid (Hz.out.far (p := ⟨hb0, 6, none⟩) hne (.int .i64 (getV (sub l 124 12)))); clear x0 x1 x2 x3 x4 x5 x6 x7 x8 x9 x10 yf; (with_reducible refine (rget_s (sub l 136 12) _ _ (rd_sub (Ha.out.keep HT.out) (i := 136) (n := 12) (by have := H512.out; omega)) (by rw [sub_length (by have := H512.out; omega)]; omega)).mono ?_); rintro e w' ⟨rfl, hs⟩; replace Hb := Lib.hid (Hb.out.keep hs Hb.out.lt); replace HT := Lib.hid (Stp.trans HT.out hs); replace Hz := Lib.hid (Hz.out.keep hs Hz.out.lt); clear hs; obtain ⟨x0, x1, x2, x3, x4, x5, x6, x7, x8, x9, x10⟩ := hd_cells Hb.out; replace x8 : w'.cell? ⟨hb0, 8, none⟩ = some (.int .u8 (t.toNat : Int)) := x8; have yf := Hb.out.free 7)
        | (go_at_call 99; replace Hb := Lib.hid (gR_4 Hb.out); replace HT := Lib.hid (set_stp HT.out hhb 7 (.int .i64 (getV (sub l 136 12)))); replace Hz := Lib.hid (Hz.out.far (p := ⟨hb0, 7, none⟩) hne (.int .i64 (getV (sub l 136 12)))); clear x0 x1 x2 x3 x4 x5 x6 x7 x8 x9 x10 yf; (with_reducible refine (rupto_v (sub l 345 155) _ _ (rd_sub (Ha.out.keep HT.out) (i := 345) (n := 155) (by have := H512.out; omega)) (by rw [sub_length (by have := H512.out; omega)]; omega)).mono ?_); rintro e w' ⟨rfl, hs⟩; replace Hb := Lib.hid (Hb.out.keep hs Hb.out.lt); replace HT := Lib.hid (Stp.trans HT.out hs); replace Hz := Lib.hid (Hz.out.keep hs Hz.out.lt); clear hs; obtain ⟨-, x1, -, -, -, -, -, -, -, -, -⟩ := hd_cells Hb.out; obtain ⟨x0, x2, x3, x4, x5, x6, x7, x8, x9, x10, hre⟩ := fin_n Hb.out (Hend.out.2 H77.out); rw [hre]; clear hre; have yf := Hb.out.free 1; obtain ⟨⟨z0, z1, z2, z3, z4, z5, z6, z7, z8, z9, z10⟩, ⟨y0, y1, y2, y3, y4, y5, y6, y7, y8, y9, y10⟩⟩ := zy Hz.out))
      have hz9 := Hz.out.far (p := ⟨hb0, 1, none⟩) hne (.string ⟨H.pre.toArray⟩)
      have hf := fill_blk H hz9
      have hst := fill_stp (g := gz) H (Stp.trans H1.out (set_stp HT.out hhb 1 (.string ⟨H.pre.toArray⟩))) (by omega)
      change bodyPost _ _ _ _ _ (fillW (w'.setCell ⟨hb0, 1, none⟩ (.string ⟨H.pre.toArray⟩)) gz H)
      generalize fillW (w'.setCell ⟨hb0, 1, none⟩ (.string ⟨H.pre.toArray⟩)) gz H = W at hf hst ⊢
      clear x0 x1 x2 x3 x4 x5 x6 x7 x8 x9 x10 yf z0 z1 z2 z3 z4 z5 z6 z7 z8 z9 z10 y0 y1 y2 y3 y4 y5 y6 y7 y8 y9 y10 g77 hs1 hs0
      obtain ⟨p0, p1, p2, p3, p4, p5, p6, p7, p8, p9, p10⟩ := hd_cells hf
      refine bodyPost_ret (v := hv H) (by simp [results, Tryz.results80, go_sem, *]) rfl ⟨rfl, hst⟩
end Go.Proofs.YtagkdodjffhlmaaGreat.Head

namespace Go.Proofs.YtagkdodjffhlmaaGreat.Head
open Go.RowKit Go.Proofs.YtagkdodjffhlmaaGreat.Base Go.Proofs.YtagkdodjffhlmaaGreat.NumM Go.Proofs.YtagkdodjffhlmaaGreat.Num

set_option linter.unusedSimpArgs false
set_option maxHeartbeats 1000000 in
set_option maxRecDepth 100000 in
theorem rGet_arg (l : L) (A : Option Addr) (c : Nat) (w : World) (h512 : l.length ≠ 512) :
    Calls Tryz.prog 55 #[.slice A l.length c] w fun e w' => e = .returned (.tuple #[hv zeroH, .int .i64 1]) ∧ Stp w w' := by
  have h0 := Stp.refl w
  have g0 : ((l.length : Int) != 512) = true := by simp; omega
  clear h512
  go_enter Tryz.func55, Tryz.ntmps55
  go_wp2_with fail
  have hf := Blk.new w 40 (hcells zeroH)
  have hst := Stp.alloc h0 (.cells (hcells zeroH) 40)
  obtain ⟨gz, hgz⟩ : ∃ x, w.heap.size = x := ⟨_, rfl⟩
  rw [hgz] at hf
  change bodyPost _ _ _ _ _ (w.alloc (.cells (hcells zeroH) 40))
  generalize w.alloc (.cells (hcells zeroH) 40) = W at hf hst ⊢
  obtain ⟨p0, p1, p2, p3, p4, p5, p6, p7, p8, p9, p10⟩ := hd_cells hf
  refine bodyPost_ret (v := .tuple #[hv zeroH, .int .i64 1]) (by simp [results, Tryz.results55, go_sem, *]) rfl ⟨rfl, hst⟩

set_option maxHeartbeats 1000000 in
set_option maxRecDepth 100000 in
theorem rGet_zero (l : L) (A : Option Addr) (c : Nat) (w : World) (ha : RdA w A c (bs l)) (h512 : l.length = 512) (hz : zeroV l = true) :
    Calls Tryz.prog 55 #[.slice A l.length c] w fun e w' => e = .returned (.tuple #[hv zeroH, .int .i64 4]) ∧ Stp w w' := by
  have h0 := Stp.refl w
  have g0 : ((l.length : Int) != 512) = false := by simp; omega
  have Hl := Lib.hid (show l.length < 9223372036854775808 by omega)
  have Hz := Lib.hid hz
  have Hb0 := Lib.hid (Blk.new w 40 (hcells zeroH))
  have Ha := Lib.hid (ha.keep (Stp.alloc h0 (.cells (hcells zeroH) 40)))
  obtain ⟨gz, hgz⟩ : ∃ x, w.heap.size = x := ⟨_, rfl⟩
  rw [hgz] at Hb0
  clear h512 hz ha
  go_enter Tryz.func55, Tryz.ntmps55
  go_wp2_with (first
    | (go_at_call 79; refine (rzero_s l _ _ _ Ha.out Hl.out).mono ?_; rintro e w1 ⟨rfl, hs⟩; rw [Hz.out]; have Hb1 := Lib.hid (Hb0.out.keep hs Hb0.out.lt); have H1 := Lib.hid (Stp.trans (Stp.alloc h0 _) hs); clear hs; obtain ⟨⟨z0, z1, z2, z3, z4, z5, z6, z7, z8, z9, z10⟩, ⟨y0, y1, y2, y3, y4, y5, y6, y7, y8, y9, y10⟩⟩ := zy Hb1.out))
  have hf := fill_blk zeroH Hb1.out
  have hst := fill_stp (g := gz) zeroH H1.out (by omega)
  change bodyPost _ _ _ _ _ (fillW w1 gz zeroH)
  generalize fillW w1 gz zeroH = W at hf hst ⊢
  clear z0 z1 z2 z3 z4 z5 z6 z7 z8 z9 z10 y0 y1 y2 y3 y4 y5 y6 y7 y8 y9 y10
  obtain ⟨p0, p1, p2, p3, p4, p5, p6, p7, p8, p9, p10⟩ := hd_cells hf
  refine bodyPost_ret (v := .tuple #[hv zeroH, .int .i64 4]) (by simp [results, Tryz.results55, go_sem, *]) rfl ⟨rfl, hst⟩

set_option maxHeartbeats 1000000 in
set_option maxRecDepth 100000 in
theorem rGet_sum (l : L) (A : Option Addr) (c : Nat) (w : World) (ha : RdA w A c (bs l)) (h512 : l.length = 512) (hz : zeroV l = false) (hne : sub l 148 8 ≠ sumT l) :
    Calls Tryz.prog 55 #[.slice A l.length c] w fun e w' => e = .returned (.tuple #[hv zeroH, .int .i64 3]) ∧ Stp w w' := by
  have h0 := Stp.refl w
  have g0 : ((l.length : Int) != 512) = false := by simp; omega
  have Hl := Lib.hid (show l.length < 9223372036854775808 by omega)
  have Hz := Lib.hid hz
  have Hb0 := Lib.hid (Blk.new w 40 (hcells zeroH))
  have Ha := Lib.hid (ha.keep (Stp.alloc h0 (.cells (hcells zeroH) 40)))
  obtain ⟨gz, hgz⟩ : ∃ x, w.heap.size = x := ⟨_, rfl⟩
  rw [hgz] at Hb0
  have H512 := Lib.hid h512
  obtain ⟨b, o, rfl, hcell⟩ := ha.at_ (j := 0) (by rw [bs_length]; omega)
  have hcl := ha.length_le
  rw [bs_length] at hcl
  have hsl := slice148 b o l.length c (by omega)
  have hsl2 := sliceAt148 b o l.length c (by omega)
  obtain ⟨T, hT⟩ : ∃ T, sub l 148 8 = T := ⟨_, rfl⟩
  obtain ⟨S, hS⟩ : ∃ S, sumT l = S := ⟨_, rfl⟩
  have HS := Lib.hid hS
  have hcv : ∀ W, Stp w W → (convert 36 9 (.slice (some ⟨b, o + 148, none⟩) 8 (c - 148))).run Tryz.prog W = .ok (.string ⟨T.toArray⟩) W := fun W hW => by
    rw [← hT]
    exact Num.str_of W _ _ _ (rd_sub (ha.keep hW) (i := 148) (n := 8) (by omega))
  have Hcv := Lib.hid hcv
  rw [hT, hS] at hne
  have hq : (T == S) = false := beq_eq_false_iff_ne.2 hne
  clear h512 hz ha hcell hcl hcv hT hS hne
  go_enter Tryz.func55, Tryz.ntmps55
  go_wp2_with (first
    | (go_at_call 79; refine (rzero_s l _ _ _ Ha.out Hl.out).mono ?_; rintro e w1 ⟨rfl, hs⟩; rw [Hz.out]; have Hb1 := Lib.hid (Hb0.out.keep hs Hb0.out.lt); have H1 := Lib.hid (Stp.trans (Stp.alloc h0 _) hs); have Ha1 := Lib.hid (Ha.out.keep hs); clear hs))
  refine wp_region_held_drew (S := (fun W : World => (convert 36 9 (.slice (some ⟨b, o + 148, none⟩) 8 (c - 148))).run Tryz.prog W = .ok (.string ⟨T.toArray⟩) W)) (by kernel_rfl) (Hcv.out _ (stp_drew H1.out)) (fun hHeld => ?_)
  refine wpAnyH_take (i := 0) (oi := { dst := some 16, op := Go.Op.move (Go.Operand.tmp 0), type := 36, pos := "ref.go:146", after := #[], guard := none }) (v := ?v0) rfl (by kernel_rfl) (by kernel_rfl) (by kernel_rfl) (fun _ _ _ h => h) (Or.inl ⟨by rfl, ?hy0⟩) (by assumption) ?rest0
  case hy0 => (intro w hSw; (try dsimp only at hSw); go_simp; try with_reducible rfl)
  try simp only [Act.put, List.setIfInBounds_toArray, List.set_cons_zero, List.set_cons_succ]
  refine wpAnyH_take (i := 1) (oi := { dst := some 17, op := Go.Op.slice 36 (Go.Operand.tmp 16) (some (Go.Operand.const (Go.Value.int Go.IntKind.i64 148))) (some (Go.Operand.const (Go.Value.int Go.IntKind.i64 156))) none, type := 36, pos := "ref.go:146", after := #[{ on := 0, ground := Go.Ground.data }], guard := none }) (v := ?v1) rfl (by kernel_rfl) (by kernel_rfl) (by kernel_rfl) (fun _ _ _ h => h) (Or.inl ⟨by rfl, ?hy1⟩) (by assumption) ?rest1
  case hy1 => (intro w hSw; (try dsimp only at hSw); go_simp; try with_reducible rfl)
  try simp only [Act.put, List.setIfInBounds_toArray, List.set_cons_zero, List.set_cons_succ]
  refine wpAnyH_take (i := 2) (oi := { dst := some 18, op := Go.Op.convert 36 9 (Go.Operand.tmp 17), type := 9, pos := "ref.go:146", after := #[{ on := 1, ground := Go.Ground.data }], guard := none }) (v := ?v2) rfl (by kernel_rfl) (by kernel_rfl) (by kernel_rfl) (fun _ _ _ h => h) (Or.inl ⟨by rfl, ?hy2⟩) (by assumption) ?rest2
  case hy2 => (intro w hSw; (try dsimp only at hSw); go_simp; try with_reducible rfl)
  try simp only [Act.put, List.setIfInBounds_toArray, List.set_cons_zero, List.set_cons_succ]
  refine wpAnyH_take (i := 3) (oi := { dst := some 19, op := Go.Op.move (Go.Operand.tmp 0), type := 36, pos := "ref.go:146", after := #[], guard := none }) (v := ?v3) rfl (by kernel_rfl) (by kernel_rfl) (by kernel_rfl) (fun _ _ _ h => h) (Or.inl ⟨by rfl, ?hy3⟩) (by assumption) ?rest3
  case hy3 => (intro w hSw; (try dsimp only at hSw); go_simp; try with_reducible rfl)
  try simp only [Act.put, List.setIfInBounds_toArray, List.set_cons_zero, List.set_cons_succ]
  refine wpAnyH_ready (rs := [4]) (by kernel_rfl) (by simp) ?_
  refine AllReadyH.cons (o := { dst := some 20, op := Go.Op.call { callee := Go.Callee.value (Go.Operand.func 48), args := #[Go.Operand.tmp 19], argTypes := #[36] }, type := 3, pos := "ref.go:146", after := #[{ on := 3, ground := Go.Ground.data }], guard := none }) rfl (fun K hK => ?_) AllReadyH.nil
  go_simp
  refine (rsum_s l _ _ w1.drew (show RdA w1.drew _ _ _ from Ha1.out)).mono ?_
  rintro e wS ⟨rfl, hs⟩
  have HS1 := Lib.hid (Stp.trans (stp_drew H1.out) hs)
  have HbS := Lib.hid ((show Blk w1.drew gz 40 (hcells zeroH) from Hb1.out).keep hs Hb1.out.lt)
  have HaS := Lib.hid ((show RdA w1.drew (some ⟨b, o, none⟩) c (bs l) from Ha1.out).keep hs)
  clear hs
  go_wp2_with fail
  refine hK.out _ _ (Hcv.out _ (HS1.out)) (fun hHeld2 => ?_)
  clear hK K hHeld
  have hHeld := hHeld2
  clear hHeld2
  try simp only [Act.put, List.setIfInBounds_toArray, List.set_cons_zero, List.set_cons_succ]
  refine wpAnyH_ready (rs := [5]) (by kernel_rfl) (by simp) ?_
  refine AllReadyH.cons (o := { dst := some 21, op := Go.Op.call { callee := Go.Callee.value (Go.Operand.func 47), args := #[Go.Operand.tmp 20], argTypes := #[3] }, type := 36, pos := "ref.go:146", after := #[{ on := 4, ground := Go.Ground.data }, { on := 4, ground := Go.Ground.chain }], guard := none }) rfl (fun K hK => ?_) AllReadyH.nil
  go_simp
  refine (rsign_s l H512.out wS).mono ?_
  rintro e w2 ⟨v, rfl, hv, hs⟩
  obtain ⟨Av, cv, rfl, hrv, -⟩ := own_lay hv
  rw [HS.out] at hrv
  have hcv2 := Block.str_rd hrv
  rw [show (sumT l).length = S.length by rw [HS.out]]
  have H2 := Lib.hid (Stp.trans HS1.out hs)
  have Hb2 := Lib.hid (HbS.out.keep hs HbS.out.lt)
  have Ha2 := Lib.hid (HaS.out.keep hs)
  clear hs hv hrv
  go_wp2_with fail
  refine hK.out _ _ (Hcv.out _ (H2.out)) (fun hHeld2 => ?_)
  clear hK K hHeld
  have hHeld := hHeld2
  clear hHeld2
  try simp only [Act.put, List.setIfInBounds_toArray, List.set_cons_zero, List.set_cons_succ]
  refine wpAnyH_ready (rs := [6]) (by kernel_rfl) (by simp) ?_
  refine AllReadyH.cons (o := { dst := some 22, op := Go.Op.convert 36 9 (Go.Operand.tmp 21), type := 9, pos := "ref.go:146", after := #[{ on := 5, ground := Go.Ground.data }], guard := none }) rfl (fun K hK => ?_) AllReadyH.nil
  go_simp
  refine hK.out _ _ (Hcv.out _ (H2.out)) (fun hHeld2 => ?_)
  clear hK K hHeld
  have hHeld := hHeld2
  clear hHeld2
  try simp only [Act.put, List.setIfInBounds_toArray, List.set_cons_zero, List.set_cons_succ]
  clear hcv2
  refine wpAnyH_take (i := 7) (oi := { dst := some 23, op := Go.Op.binOp Go.BinOp.neq 9 (Go.Operand.tmp 18) (Go.Operand.tmp 22) 9, type := 4, pos := "ref.go:146", after := #[{ on := 2, ground := Go.Ground.data }, { on := 6, ground := Go.Ground.data }], guard := none }) (v := ?v7) rfl (by kernel_rfl) (by kernel_rfl) (by kernel_rfl) (fun _ _ _ h => h) (Or.inl ⟨by rfl, ?hy7⟩) (by assumption) ?rest7
  case hy7 => (intro w hSw; (try dsimp only at hSw); go_simp; try with_reducible rfl)
  try simp only [Act.put, List.setIfInBounds_toArray, List.set_cons_zero, List.set_cons_succ]
  refine wpAnyH_done (by kernel_rfl) ?_ _
  obtain ⟨⟨z0, z1, z2, z3, z4, z5, z6, z7, z8, z9, z10⟩, ⟨y0, y1, y2, y3, y4, y5, y6, y7, y8, y9, y10⟩⟩ := zy Hb2.out
  go_wp2_with fail
  have hf := fill_blk zeroH Hb2.out
  have hst := fill_stp (g := gz) zeroH H2.out (by omega)
  change bodyPost _ _ _ _ _ (fillW w2 gz zeroH)
  generalize fillW w2 gz zeroH = W at hf hst ⊢
  clear z0 z1 z2 z3 z4 z5 z6 z7 z8 z9 z10 y0 y1 y2 y3 y4 y5 y6 y7 y8 y9 y10
  obtain ⟨p0, p1, p2, p3, p4, p5, p6, p7, p8, p9, p10⟩ := hd_cells hf
  refine bodyPost_ret (v := .tuple #[hv zeroH, .int .i64 3]) (by simp [results, Tryz.results55, go_sem, *]) rfl ⟨rfl, hst⟩

set_option maxHeartbeats 1000000 in
set_option maxRecDepth 100000 in
theorem rGet_form (l : L) (A : Option Addr) (c : Nat) (w : World) (ha : RdA w A c (bs l)) (h512 : l.length = 512) (hz : zeroV l = false) (hne : sub l 148 8 = sumT l) (hno : ¬ (mayH (guessH l) = true ∧ blk (guessH l) = l)) :
    Calls Tryz.prog 55 #[.slice A l.length c] w fun e w' => e = .returned (.tuple #[hv zeroH, .int .i64 2]) ∧ Stp w w' := by
  have h0 := Stp.refl w
  have g0 : ((l.length : Int) != 512) = false := by simp; omega
  have Hl := Lib.hid (show l.length < 9223372036854775808 by omega)
  have Hz := Lib.hid hz
  have Hb0 := Lib.hid (Blk.new w 40 (hcells zeroH))
  have Ha := Lib.hid (ha.keep (Stp.alloc h0 (.cells (hcells zeroH) 40)))
  obtain ⟨gz, hgz⟩ : ∃ x, w.heap.size = x := ⟨_, rfl⟩
  rw [hgz] at Hb0
  have H512 := Lib.hid h512
  obtain ⟨b, o, rfl, hcell⟩ := ha.at_ (j := 0) (by rw [bs_length]; omega)
  have hcl := ha.length_le
  rw [bs_length] at hcl
  have hsl := slice148 b o l.length c (by omega)
  have hsl2 := sliceAt148 b o l.length c (by omega)
  obtain ⟨T, hT⟩ : ∃ T, sub l 148 8 = T := ⟨_, rfl⟩
  obtain ⟨S, hS⟩ : ∃ S, sumT l = S := ⟨_, rfl⟩
  have HS := Lib.hid hS
  have hcv : ∀ W, Stp w W → (convert 36 9 (.slice (some ⟨b, o + 148, none⟩) 8 (c - 148))).run Tryz.prog W = .ok (.string ⟨T.toArray⟩) W := fun W hW => by
    rw [← hT]
    exact Num.str_of W _ _ _ (rd_sub (ha.keep hW) (i := 148) (n := 8) (by omega))
  have Hcv := Lib.hid hcv
  rw [hT, hS] at hne
  have hq : (T == S) = true := by rw [hne]; simp
  obtain ⟨G, hG⟩ : ∃ G, guessH l = G := ⟨_, rfl⟩
  have HG := Lib.hid hG
  have hsm := small_guess h512
  rw [hG] at hsm
  have Hsm := Lib.hid hsm
  have heq := putB_eq (h := G) h512
  rw [hG] at hno
  rw [decide_eq_false hno] at heq
  have Heq := Lib.hid heq
  clear h512 hz ha hcell hcl hcv hT hS hne hG hsm heq hno
  go_enter Tryz.func55, Tryz.ntmps55
  go_wp2_with (first
    | (go_at_call 79; refine (rzero_s l _ _ _ Ha.out Hl.out).mono ?_; rintro e w1 ⟨rfl, hs⟩; rw [Hz.out]; have Hb1 := Lib.hid (Hb0.out.keep hs Hb0.out.lt); have H1 := Lib.hid (Stp.trans (Stp.alloc h0 _) hs); have Ha1 := Lib.hid (Ha.out.keep hs); clear hs))
  refine wp_region_held_drew (S := (fun W : World => (convert 36 9 (.slice (some ⟨b, o + 148, none⟩) 8 (c - 148))).run Tryz.prog W = .ok (.string ⟨T.toArray⟩) W)) (by kernel_rfl) (Hcv.out _ (stp_drew H1.out)) (fun hHeld => ?_)
  refine wpAnyH_take (i := 0) (oi := { dst := some 16, op := Go.Op.move (Go.Operand.tmp 0), type := 36, pos := "ref.go:146", after := #[], guard := none }) (v := ?v0) rfl (by kernel_rfl) (by kernel_rfl) (by kernel_rfl) (fun _ _ _ h => h) (Or.inl ⟨by rfl, ?hy0⟩) (by assumption) ?rest0
  case hy0 => (intro w hSw; (try dsimp only at hSw); go_simp; try with_reducible rfl)
  try simp only [Act.put, List.setIfInBounds_toArray, List.set_cons_zero, List.set_cons_succ]
  refine wpAnyH_take (i := 1) (oi := { dst := some 17, op := Go.Op.slice 36 (Go.Operand.tmp 16) (some (Go.Operand.const (Go.Value.int Go.IntKind.i64 148))) (some (Go.Operand.const (Go.Value.int Go.IntKind.i64 156))) none, type := 36, pos := "ref.go:146", after := #[{ on := 0, ground := Go.Ground.data }], guard := none }) (v := ?v1) rfl (by kernel_rfl) (by kernel_rfl) (by kernel_rfl) (fun _ _ _ h => h) (Or.inl ⟨by rfl, ?hy1⟩) (by assumption) ?rest1
  case hy1 => (intro w hSw; (try dsimp only at hSw); go_simp; try with_reducible rfl)
  try simp only [Act.put, List.setIfInBounds_toArray, List.set_cons_zero, List.set_cons_succ]
  refine wpAnyH_take (i := 2) (oi := { dst := some 18, op := Go.Op.convert 36 9 (Go.Operand.tmp 17), type := 9, pos := "ref.go:146", after := #[{ on := 1, ground := Go.Ground.data }], guard := none }) (v := ?v2) rfl (by kernel_rfl) (by kernel_rfl) (by kernel_rfl) (fun _ _ _ h => h) (Or.inl ⟨by rfl, ?hy2⟩) (by assumption) ?rest2
  case hy2 => (intro w hSw; (try dsimp only at hSw); go_simp; try with_reducible rfl)
  try simp only [Act.put, List.setIfInBounds_toArray, List.set_cons_zero, List.set_cons_succ]
  refine wpAnyH_take (i := 3) (oi := { dst := some 19, op := Go.Op.move (Go.Operand.tmp 0), type := 36, pos := "ref.go:146", after := #[], guard := none }) (v := ?v3) rfl (by kernel_rfl) (by kernel_rfl) (by kernel_rfl) (fun _ _ _ h => h) (Or.inl ⟨by rfl, ?hy3⟩) (by assumption) ?rest3
  case hy3 => (intro w hSw; (try dsimp only at hSw); go_simp; try with_reducible rfl)
  try simp only [Act.put, List.setIfInBounds_toArray, List.set_cons_zero, List.set_cons_succ]
  refine wpAnyH_ready (rs := [4]) (by kernel_rfl) (by simp) ?_
  refine AllReadyH.cons (o := { dst := some 20, op := Go.Op.call { callee := Go.Callee.value (Go.Operand.func 48), args := #[Go.Operand.tmp 19], argTypes := #[36] }, type := 3, pos := "ref.go:146", after := #[{ on := 3, ground := Go.Ground.data }], guard := none }) rfl (fun K hK => ?_) AllReadyH.nil
  go_simp
  refine (rsum_s l _ _ w1.drew (show RdA w1.drew _ _ _ from Ha1.out)).mono ?_
  rintro e wS ⟨rfl, hs⟩
  have HS1 := Lib.hid (Stp.trans (stp_drew H1.out) hs)
  have HbS := Lib.hid ((show Blk w1.drew gz 40 (hcells zeroH) from Hb1.out).keep hs Hb1.out.lt)
  have HaS := Lib.hid ((show RdA w1.drew (some ⟨b, o, none⟩) c (bs l) from Ha1.out).keep hs)
  clear hs
  go_wp2_with fail
  refine hK.out _ _ (Hcv.out _ (HS1.out)) (fun hHeld2 => ?_)
  clear hK K hHeld
  have hHeld := hHeld2
  clear hHeld2
  try simp only [Act.put, List.setIfInBounds_toArray, List.set_cons_zero, List.set_cons_succ]
  refine wpAnyH_ready (rs := [5]) (by kernel_rfl) (by simp) ?_
  refine AllReadyH.cons (o := { dst := some 21, op := Go.Op.call { callee := Go.Callee.value (Go.Operand.func 47), args := #[Go.Operand.tmp 20], argTypes := #[3] }, type := 36, pos := "ref.go:146", after := #[{ on := 4, ground := Go.Ground.data }, { on := 4, ground := Go.Ground.chain }], guard := none }) rfl (fun K hK => ?_) AllReadyH.nil
  go_simp
  refine (rsign_s l H512.out wS).mono ?_
  rintro e w2 ⟨v, rfl, hv, hs⟩
  obtain ⟨Av, cv, rfl, hrv, -⟩ := own_lay hv
  rw [HS.out] at hrv
  have hcv2 := Block.str_rd hrv
  rw [show (sumT l).length = S.length by rw [HS.out]]
  have H2 := Lib.hid (Stp.trans HS1.out hs)
  have Hb2 := Lib.hid (HbS.out.keep hs HbS.out.lt)
  have Ha2 := Lib.hid (HaS.out.keep hs)
  clear hs hv hrv
  go_wp2_with fail
  refine hK.out _ _ (Hcv.out _ (H2.out)) (fun hHeld2 => ?_)
  clear hK K hHeld
  have hHeld := hHeld2
  clear hHeld2
  try simp only [Act.put, List.setIfInBounds_toArray, List.set_cons_zero, List.set_cons_succ]
  refine wpAnyH_ready (rs := [6]) (by kernel_rfl) (by simp) ?_
  refine AllReadyH.cons (o := { dst := some 22, op := Go.Op.convert 36 9 (Go.Operand.tmp 21), type := 9, pos := "ref.go:146", after := #[{ on := 5, ground := Go.Ground.data }], guard := none }) rfl (fun K hK => ?_) AllReadyH.nil
  go_simp
  refine hK.out _ _ (Hcv.out _ (H2.out)) (fun hHeld2 => ?_)
  clear hK K hHeld
  have hHeld := hHeld2
  clear hHeld2
  try simp only [Act.put, List.setIfInBounds_toArray, List.set_cons_zero, List.set_cons_succ]
  clear hcv2
  refine wpAnyH_take (i := 7) (oi := { dst := some 23, op := Go.Op.binOp Go.BinOp.neq 9 (Go.Operand.tmp 18) (Go.Operand.tmp 22) 9, type := 4, pos := "ref.go:146", after := #[{ on := 2, ground := Go.Ground.data }, { on := 6, ground := Go.Ground.data }], guard := none }) (v := ?v7) rfl (by kernel_rfl) (by kernel_rfl) (by kernel_rfl) (fun _ _ _ h => h) (Or.inl ⟨by rfl, ?hy7⟩) (by assumption) ?rest7
  case hy7 => (intro w hSw; (try dsimp only at hSw); go_simp; try with_reducible rfl)
  try simp only [Act.put, List.setIfInBounds_toArray, List.set_cons_zero, List.set_cons_succ]
  refine wpAnyH_done (by kernel_rfl) ?_ _
  go_wp2_with (first
    | (go_at_call 80; refine (rguess_s l _ _ _ Ha2.out H512.out).mono ?_; rintro e w3 ⟨rfl, hs⟩; rw [HG.out]; have H3 := Lib.hid (Stp.trans H2.out hs); have Hb3 := Lib.hid (Hb2.out.keep hs Hb2.out.lt); have Ha3 := Lib.hid (Ha2.out.keep hs); clear hs Hb2 Ha2)
    | (go_at_call 21; refine (rputH_s G Hsm.out _).mono ?_; rintro e w4 ⟨A4, c4, rfl, hr, hs⟩; have Hr4 := Lib.hid hr; have H4 := Lib.hid (Stp.trans (Stp.alloc H3.out _) hs); have Hb4 := Lib.hid ((Hb3.out.alloc _).keep hs (Hb3.out.alloc _).lt); have Hg4 := Lib.hid ((Blk.new w3 40 (hcells G)).keep hs (Blk.new w3 40 (hcells G)).lt); have Ha4 := Lib.hid ((Ha3.out.keep (Stp.alloc (Stp.refl w3) _)).keep hs); have hlt3 := Hb3.out.lt; clear hr hs Hb3 Ha3; have hcp := Block.str_rd Hr4.out; have hcb := Block.str_rd Ha4.out; have heq := Heq.out; obtain ⟨⟨z0, z1, z2, z3, z4, z5, z6, z7, z8, z9, z10⟩, ⟨y0, y1, y2, y3, y4, y5, y6, y7, y8, y9, y10⟩⟩ := zy Hb4.out; generalize mayH G = mg; rcases mg))
  all_goals
    have hf := fill_blk zeroH Hb4.out
    have hst := fill_stp (g := gz) zeroH H4.out (by omega)
    change bodyPost _ _ _ _ _ (fillW w4 gz zeroH)
    generalize fillW w4 gz zeroH = W at hf hst ⊢
    clear z0 z1 z2 z3 z4 z5 z6 z7 z8 z9 z10 y0 y1 y2 y3 y4 y5 y6 y7 y8 y9 y10
    obtain ⟨p0, p1, p2, p3, p4, p5, p6, p7, p8, p9, p10⟩ := hd_cells hf
    refine bodyPost_ret (v := .tuple #[hv zeroH, .int .i64 2]) (by simp [results, Tryz.results55, go_sem, *]) rfl ⟨rfl, hst⟩

set_option maxHeartbeats 1000000 in
set_option maxRecDepth 100000 in
theorem rGet_ok (l : L) (A : Option Addr) (c : Nat) (w : World) (ha : RdA w A c (bs l)) (h512 : l.length = 512) (hz : zeroV l = false) (hne : sub l 148 8 = sumT l) (hno : mayH (guessH l) = true ∧ blk (guessH l) = l) :
    Calls Tryz.prog 55 #[.slice A l.length c] w fun e w' => e = .returned (.tuple #[hv (guessH l), .int .i64 0]) ∧ Stp w w' := by
  have h0 := Stp.refl w
  have g0 : ((l.length : Int) != 512) = false := by simp; omega
  have Hl := Lib.hid (show l.length < 9223372036854775808 by omega)
  have Hz := Lib.hid hz
  have Hb0 := Lib.hid (Blk.new w 40 (hcells zeroH))
  have Ha := Lib.hid (ha.keep (Stp.alloc h0 (.cells (hcells zeroH) 40)))
  obtain ⟨gz, hgz⟩ : ∃ x, w.heap.size = x := ⟨_, rfl⟩
  rw [hgz] at Hb0
  have H512 := Lib.hid h512
  obtain ⟨b, o, rfl, hcell⟩ := ha.at_ (j := 0) (by rw [bs_length]; omega)
  have hcl := ha.length_le
  rw [bs_length] at hcl
  have hsl := slice148 b o l.length c (by omega)
  have hsl2 := sliceAt148 b o l.length c (by omega)
  obtain ⟨T, hT⟩ : ∃ T, sub l 148 8 = T := ⟨_, rfl⟩
  obtain ⟨S, hS⟩ : ∃ S, sumT l = S := ⟨_, rfl⟩
  have HS := Lib.hid hS
  have hcv : ∀ W, Stp w W → (convert 36 9 (.slice (some ⟨b, o + 148, none⟩) 8 (c - 148))).run Tryz.prog W = .ok (.string ⟨T.toArray⟩) W := fun W hW => by
    rw [← hT]
    exact Num.str_of W _ _ _ (rd_sub (ha.keep hW) (i := 148) (n := 8) (by omega))
  have Hcv := Lib.hid hcv
  rw [hT, hS] at hne
  have hq : (T == S) = true := by rw [hne]; simp
  obtain ⟨G, hG⟩ : ∃ G, guessH l = G := ⟨_, rfl⟩
  have HG := Lib.hid hG
  have hsm := small_guess h512
  rw [hG] at hsm ⊢
  have Hsm := Lib.hid hsm
  have heq := putB_eq (h := G) h512
  rw [hG] at hno
  rw [decide_eq_true hno] at heq
  have Hmg := Lib.hid hno.1
  have Heq := Lib.hid heq
  clear h512 hz ha hcell hcl hcv hT hS hne hG hsm heq hno
  go_enter Tryz.func55, Tryz.ntmps55
  go_wp2_with (first
    | (go_at_call 79; refine (rzero_s l _ _ _ Ha.out Hl.out).mono ?_; rintro e w1 ⟨rfl, hs⟩; rw [Hz.out]; have Hb1 := Lib.hid (Hb0.out.keep hs Hb0.out.lt); have H1 := Lib.hid (Stp.trans (Stp.alloc h0 _) hs); have Ha1 := Lib.hid (Ha.out.keep hs); clear hs))
  refine wp_region_held_drew (S := (fun W : World => (convert 36 9 (.slice (some ⟨b, o + 148, none⟩) 8 (c - 148))).run Tryz.prog W = .ok (.string ⟨T.toArray⟩) W)) (by kernel_rfl) (Hcv.out _ (stp_drew H1.out)) (fun hHeld => ?_)
  refine wpAnyH_take (i := 0) (oi := { dst := some 16, op := Go.Op.move (Go.Operand.tmp 0), type := 36, pos := "ref.go:146", after := #[], guard := none }) (v := ?v0) rfl (by kernel_rfl) (by kernel_rfl) (by kernel_rfl) (fun _ _ _ h => h) (Or.inl ⟨by rfl, ?hy0⟩) (by assumption) ?rest0
  case hy0 => (intro w hSw; (try dsimp only at hSw); go_simp; try with_reducible rfl)
  try simp only [Act.put, List.setIfInBounds_toArray, List.set_cons_zero, List.set_cons_succ]
  refine wpAnyH_take (i := 1) (oi := { dst := some 17, op := Go.Op.slice 36 (Go.Operand.tmp 16) (some (Go.Operand.const (Go.Value.int Go.IntKind.i64 148))) (some (Go.Operand.const (Go.Value.int Go.IntKind.i64 156))) none, type := 36, pos := "ref.go:146", after := #[{ on := 0, ground := Go.Ground.data }], guard := none }) (v := ?v1) rfl (by kernel_rfl) (by kernel_rfl) (by kernel_rfl) (fun _ _ _ h => h) (Or.inl ⟨by rfl, ?hy1⟩) (by assumption) ?rest1
  case hy1 => (intro w hSw; (try dsimp only at hSw); go_simp; try with_reducible rfl)
  try simp only [Act.put, List.setIfInBounds_toArray, List.set_cons_zero, List.set_cons_succ]
  refine wpAnyH_take (i := 2) (oi := { dst := some 18, op := Go.Op.convert 36 9 (Go.Operand.tmp 17), type := 9, pos := "ref.go:146", after := #[{ on := 1, ground := Go.Ground.data }], guard := none }) (v := ?v2) rfl (by kernel_rfl) (by kernel_rfl) (by kernel_rfl) (fun _ _ _ h => h) (Or.inl ⟨by rfl, ?hy2⟩) (by assumption) ?rest2
  case hy2 => (intro w hSw; (try dsimp only at hSw); go_simp; try with_reducible rfl)
  try simp only [Act.put, List.setIfInBounds_toArray, List.set_cons_zero, List.set_cons_succ]
  refine wpAnyH_take (i := 3) (oi := { dst := some 19, op := Go.Op.move (Go.Operand.tmp 0), type := 36, pos := "ref.go:146", after := #[], guard := none }) (v := ?v3) rfl (by kernel_rfl) (by kernel_rfl) (by kernel_rfl) (fun _ _ _ h => h) (Or.inl ⟨by rfl, ?hy3⟩) (by assumption) ?rest3
  case hy3 => (intro w hSw; (try dsimp only at hSw); go_simp; try with_reducible rfl)
  try simp only [Act.put, List.setIfInBounds_toArray, List.set_cons_zero, List.set_cons_succ]
  refine wpAnyH_ready (rs := [4]) (by kernel_rfl) (by simp) ?_
  refine AllReadyH.cons (o := { dst := some 20, op := Go.Op.call { callee := Go.Callee.value (Go.Operand.func 48), args := #[Go.Operand.tmp 19], argTypes := #[36] }, type := 3, pos := "ref.go:146", after := #[{ on := 3, ground := Go.Ground.data }], guard := none }) rfl (fun K hK => ?_) AllReadyH.nil
  go_simp
  refine (rsum_s l _ _ w1.drew (show RdA w1.drew _ _ _ from Ha1.out)).mono ?_
  rintro e wS ⟨rfl, hs⟩
  have HS1 := Lib.hid (Stp.trans (stp_drew H1.out) hs)
  have HbS := Lib.hid ((show Blk w1.drew gz 40 (hcells zeroH) from Hb1.out).keep hs Hb1.out.lt)
  have HaS := Lib.hid ((show RdA w1.drew (some ⟨b, o, none⟩) c (bs l) from Ha1.out).keep hs)
  clear hs
  go_wp2_with fail
  refine hK.out _ _ (Hcv.out _ (HS1.out)) (fun hHeld2 => ?_)
  clear hK K hHeld
  have hHeld := hHeld2
  clear hHeld2
  try simp only [Act.put, List.setIfInBounds_toArray, List.set_cons_zero, List.set_cons_succ]
  refine wpAnyH_ready (rs := [5]) (by kernel_rfl) (by simp) ?_
  refine AllReadyH.cons (o := { dst := some 21, op := Go.Op.call { callee := Go.Callee.value (Go.Operand.func 47), args := #[Go.Operand.tmp 20], argTypes := #[3] }, type := 36, pos := "ref.go:146", after := #[{ on := 4, ground := Go.Ground.data }, { on := 4, ground := Go.Ground.chain }], guard := none }) rfl (fun K hK => ?_) AllReadyH.nil
  go_simp
  refine (rsign_s l H512.out wS).mono ?_
  rintro e w2 ⟨v, rfl, hv, hs⟩
  obtain ⟨Av, cv, rfl, hrv, -⟩ := own_lay hv
  rw [HS.out] at hrv
  have hcv2 := Block.str_rd hrv
  rw [show (sumT l).length = S.length by rw [HS.out]]
  have H2 := Lib.hid (Stp.trans HS1.out hs)
  have Hb2 := Lib.hid (HbS.out.keep hs HbS.out.lt)
  have Ha2 := Lib.hid (HaS.out.keep hs)
  clear hs hv hrv
  go_wp2_with fail
  refine hK.out _ _ (Hcv.out _ (H2.out)) (fun hHeld2 => ?_)
  clear hK K hHeld
  have hHeld := hHeld2
  clear hHeld2
  try simp only [Act.put, List.setIfInBounds_toArray, List.set_cons_zero, List.set_cons_succ]
  refine wpAnyH_ready (rs := [6]) (by kernel_rfl) (by simp) ?_
  refine AllReadyH.cons (o := { dst := some 22, op := Go.Op.convert 36 9 (Go.Operand.tmp 21), type := 9, pos := "ref.go:146", after := #[{ on := 5, ground := Go.Ground.data }], guard := none }) rfl (fun K hK => ?_) AllReadyH.nil
  go_simp
  refine hK.out _ _ (Hcv.out _ (H2.out)) (fun hHeld2 => ?_)
  clear hK K hHeld
  have hHeld := hHeld2
  clear hHeld2
  try simp only [Act.put, List.setIfInBounds_toArray, List.set_cons_zero, List.set_cons_succ]
  clear hcv2
  refine wpAnyH_take (i := 7) (oi := { dst := some 23, op := Go.Op.binOp Go.BinOp.neq 9 (Go.Operand.tmp 18) (Go.Operand.tmp 22) 9, type := 4, pos := "ref.go:146", after := #[{ on := 2, ground := Go.Ground.data }, { on := 6, ground := Go.Ground.data }], guard := none }) (v := ?v7) rfl (by kernel_rfl) (by kernel_rfl) (by kernel_rfl) (fun _ _ _ h => h) (Or.inl ⟨by rfl, ?hy7⟩) (by assumption) ?rest7
  case hy7 => (intro w hSw; (try dsimp only at hSw); go_simp; try with_reducible rfl)
  try simp only [Act.put, List.setIfInBounds_toArray, List.set_cons_zero, List.set_cons_succ]
  refine wpAnyH_done (by kernel_rfl) ?_ _
  go_wp2_with (first
    | (go_at_call 80; refine (rguess_s l _ _ _ Ha2.out H512.out).mono ?_; rintro e w3 ⟨rfl, hs⟩; rw [HG.out]; have H3 := Lib.hid (Stp.trans H2.out hs); have Hb3 := Lib.hid (Hb2.out.keep hs Hb2.out.lt); have Ha3 := Lib.hid (Ha2.out.keep hs); clear hs Hb2 Ha2)
    | (go_at_call 21; refine (rputH_s G Hsm.out _).mono ?_; rintro e w4 ⟨A4, c4, rfl, hr, hs⟩; have Hr4 := Lib.hid hr; have H4 := Lib.hid (Stp.trans (Stp.alloc H3.out _) hs); have Hb4 := Lib.hid ((Hb3.out.alloc _).keep hs (Hb3.out.alloc _).lt); have Hg4 := Lib.hid ((Blk.new w3 40 (hcells G)).keep hs (Blk.new w3 40 (hcells G)).lt); have Ha4 := Lib.hid ((Ha3.out.keep (Stp.alloc (Stp.refl w3) _)).keep hs); have hlt3 := Hb3.out.lt; clear hr hs Hb3 Ha3; have hcp := Block.str_rd Hr4.out; have hcb := Block.str_rd Ha4.out; have heq := Heq.out; obtain ⟨⟨z0, z1, z2, z3, z4, z5, z6, z7, z8, z9, z10⟩, ⟨y0, y1, y2, y3, y4, y5, y6, y7, y8, y9, y10⟩⟩ := zy Hb4.out; obtain ⟨x0, x1, x2, x3, x4, x5, x6, x7, x8, x9, x10⟩ := hd_cells Hg4.out; rw [Hmg.out]))
  have hf := fill_blk G Hb4.out
  have hst := fill_stp (g := gz) G H4.out (by omega)
  change bodyPost _ _ _ _ _ (fillW w4 gz G)
  generalize fillW w4 gz G = W at hf hst ⊢
  clear x0 x1 x2 x3 x4 x5 x6 x7 x8 x9 x10 z0 z1 z2 z3 z4 z5 z6 z7 z8 z9 z10 y0 y1 y2 y3 y4 y5 y6 y7 y8 y9 y10
  obtain ⟨p0, p1, p2, p3, p4, p5, p6, p7, p8, p9, p10⟩ := hd_cells hf
  refine bodyPost_ret (v := .tuple #[hv G, .int .i64 0]) (by simp [results, Tryz.results55, go_sem, *]) rfl ⟨rfl, hst⟩

theorem rGet_s (l : L) (A : Option Addr) (c : Nat) (w : World) (ha : RdA w A c (bs l)) :
    Calls Tryz.prog 55 #[.slice A l.length c] w fun e w' => e = .returned (.tuple #[hv (getH l), .int .i64 (codeB l)]) ∧ Stp w w' := by
  unfold getH codeB
  by_cases h512 : l.length = 512
  · rw [if_pos h512]
    by_cases hz : l = zeros 512
    · rw [if_pos hz, if_neg (by decide)]
      exact rGet_zero l A c w ha h512 (zeroV_iff.2 (by rw [h512]; exact hz))
    · rw [if_neg hz]
      have hz2 : zeroV l = false := by
        rw [Bool.eq_false_iff]
        intro h
        have := zeroV_iff.1 h
        rw [h512] at this
        exact hz this
      by_cases hs : sub l 148 8 = sumT l
      · rw [if_pos hs]
        by_cases hm : mayH (guessH l) = true ∧ blk (guessH l) = l
        · rw [if_pos hm, if_pos rfl]
          exact rGet_ok l A c w ha h512 hz2 hs hm
        · rw [if_neg hm, if_neg (by decide)]
          exact rGet_form l A c w ha h512 hz2 hs hm
      · rw [if_neg hs, if_neg (by decide)]
        exact rGet_sum l A c w ha h512 hz2 hs
  · rw [if_neg h512, if_neg (by decide)]
    exact rGet_arg l A c w h512
end Go.Proofs.YtagkdodjffhlmaaGreat.Head

