/-
  The document's block of a header: no statement is proved here.
  The document's own answers for package head: guess; no statement is proved here.
  The document's own answers for package head: Get; no statement is proved here.
-/
import Derived.Test.YtopihahjjcpnpaaGreatDoorHeadRefE
import Derived.Test.YtopihahjjcpnpaaGreatDoorHeadRefN
import Derived.Test.YtopihahjjcpnpaaGreatDoorBlockRef
namespace Go.Proofs.YtopihahjjcpnpaaGreatDoor.Head
open Go.RowKit Go.Proofs.YtopihahjjcpnpaaGreatDoor.Base Go.Proofs.YtopihahjjcpnpaaGreatDoor.NumM Go.Proofs.YtopihahjjcpnpaaGreatDoor.Num

theorem rmay_any (h : Hd) (hsm : SmallH h) (w : World) :
    Calls Tryz.prog 111 #[hv h] w fun e w' => e = .returned (.bool (mayH h)) ∧ Stp w w' := by
  by_cases hx : h.name = [] ∨ okT h.name 100 = false ∨ okT h.link 100 = false ∨ okT h.pre 155 = false ∨ putOk h.mode 8 = false ∨ putOk h.uid 8 = false ∨ putOk h.gid 8 = false ∨ putOk h.size 12 = false ∨ putOk h.time 12 = false
  · rw [may_no hx]
    exact rmay_early h hsm w hx
  · simp only [not_or, Bool.not_eq_false] at hx
    obtain ⟨a0, a1, a2, a3, a4, a5, a6, a7, a8⟩ := hx
    exact rmay_late h hsm w a0 a1 a2 a3 a4 a5 a6 a7 a8

set_option linter.unusedSimpArgs false in
set_option maxHeartbeats 8000000 in
set_option maxRecDepth 100000 in
theorem rputH_no (h : Hd) (hs : SmallH h) (w : World) (hm : mayH h = false) :
    Calls Tryz.prog 73 #[hv h] w fun e w' => ∃ A cap, e = .returned (.tuple #[.slice A 0 cap, .bool false]) ∧ RdA w' A cap [] ∧ Stp w w' := by
  have h0 := Stp.refl w
  have Hm := Lib.hid hm
  have Hs := Lib.hid hs
  clear hm hs
  go_enter Tryz.func73, Tryz.ntmps73
  go_wp2_with (go_at_call 111; refine (rmay_any h Hs.out _).mono ?_; rintro e w' ⟨rfl, hs⟩; have H1 := Lib.hid (Stp.trans (Stp.alloc h0 _) hs); clear hs; rw [Hm.out])
  go_ret2
  exact ⟨none, 0, rfl, RdA.nil _, H1.out⟩

theorem rputH_s (h : Hd) (hs : SmallH h) (w : World) :
    Calls Tryz.prog 73 #[hv h] w fun e w' => ∃ A cap, e = .returned (.tuple #[.slice A (putB h).length cap, .bool (mayH h)]) ∧ RdA w' A cap (bs (putB h)) ∧ Stp w w' := by
  cases hm : mayH h
  · rw [show putB h = [] by unfold putB; rw [if_neg (by simp [hm])]]
    exact rputH_no h hs w hm
  · rw [putB_yes hm, blk_length hm hs]
    by_cases ht : h.ty = 77
    · exact rputH_m h hs (rmay_any h hs) w hm ht
    · exact rputH_n h hs (rmay_any h hs) w hm ht
end Go.Proofs.YtopihahjjcpnpaaGreatDoor.Head

namespace Go.Proofs.YtopihahjjcpnpaaGreatDoor.Head
open Go.RowKit Go.Proofs.YtopihahjjcpnpaaGreatDoor.Base Go.Proofs.YtopihahjjcpnpaaGreatDoor.NumM Go.Proofs.YtopihahjjcpnpaaGreatDoor.Num

theorem rd_head {w : World} {b o c : Nat} {l : L} (h : RdA w (some ⟨b, o, none⟩) c (bs l)) (hn : 100 ≤ l.length) : Rd w w.heap.size (.slice (some ⟨b, o, none⟩) 100 c) (bs (sub l 0 100)) := by
  have := rd_sub h (i := 0) (n := 100) (by omega)
  rwa [Nat.add_zero, Nat.sub_zero] at this
theorem slice_hd (b o n c : Nat) (hc : 100 ≤ c) (w : World) : (Instr.slice 43 (.slice (some ⟨b, o, none⟩) n c) none (some (.int .i64 100)) none).run Tryz.prog w = .ok (.slice (some ⟨b, o, none⟩) 100 c) w := by
  have he : Tryz.prog.elem 43 = 5 := by kernel_rfl
  have hs : (sizeOf 5).run Tryz.prog w = .ok 1 w := by
    have hi : (Tryz.prog.info? 5).map (·.size) = some 1 := by kernel_rfl
    cases hq : Tryz.prog.info? 5 with
    | none => simp [hq] at hi
    | some i =>
      have : i.size = 1 := by simpa [hq] using hi
      simp [sizeOf, typeInfo, hq, this]
  rw [run_slice_h (P := Tryz.prog) w 43 _ _ _ (by rw [he]; exact Tryz.underlying43) .i64 100 (by omega) (by omega), he, hs]
  simp only [Result.andThen_ok, sliced]
  simp
  intro _
  rw [Addr.add_lit, Nat.add_zero]
theorem slice_lit (b o n c i m : Nat) (lo hj : Int) (h1 : lo = (i : Int)) (h2 : hj = (i : Int) + (m : Int)) (hi : i + m ≤ c) (hm : 0 < m) (w : World) : (Instr.slice 43 (.slice (some ⟨b, o, none⟩) n c) (some (.int .i64 lo)) (some (.int .i64 hj)) none).run Tryz.prog w = .ok (.slice (some ⟨b, o + i, none⟩) m (c - i)) w := by
  subst h1 h2
  exact slice_lh b o n c i m hi hm w

/-- The header while it is read. -/
def gR (b : L) (t : UInt8) (m : Bool) (k : Nat) : Hd :=
  { name := upto (sub b 0 100), pre := cond m [] (if 5 < k then upto (sub b 345 155) else []), link := upto (sub b 157 100), ty := t,
    mode := if 0 < k then getV (sub b 100 8) else 0, uid := if 1 < k then getV (sub b 108 8) else 0, gid := if 2 < k then getV (sub b 116 8) else 0, size := if 3 < k then getV (sub b 124 12) else 0, time := if 4 < k then getV (sub b 136 12) else 0,
    off := cond m (if 5 < k then getV (sub b 369 12) else 0) 0, real := cond m (if 6 < k then getV (sub b 483 12) else 0) 0 }
theorem gR_end (b : L) (t : UInt8) (ht : (sub b 156 1).headD 0 = t) : (t = 77 → gR b t true 7 = guessH b) ∧ (t ≠ 77 → gR b t false 6 = guessH b) := by
  unfold guessH gR
  rw [ht]
  constructor
  · intro h; simp [h]
  · intro h; simp [h]
theorem gR_0 {w : World} {g : Nat} {ty : TypeId} {b : L} {t : UInt8} {m : Bool} (h : Blk w g ty (hcells (gR b t m 0))) : Blk (w.setCell ⟨g, 3, none⟩ (.int .i64 (getV (sub b 100 8)))) g ty (hcells (gR b t m 1)) := h.put 3 (.int .i64 (getV (sub b 100 8)))
theorem gR_1 {w : World} {g : Nat} {ty : TypeId} {b : L} {t : UInt8} {m : Bool} (h : Blk w g ty (hcells (gR b t m 1))) : Blk (w.setCell ⟨g, 4, none⟩ (.int .i64 (getV (sub b 108 8)))) g ty (hcells (gR b t m 2)) := h.put 4 (.int .i64 (getV (sub b 108 8)))
theorem gR_2 {w : World} {g : Nat} {ty : TypeId} {b : L} {t : UInt8} {m : Bool} (h : Blk w g ty (hcells (gR b t m 2))) : Blk (w.setCell ⟨g, 5, none⟩ (.int .i64 (getV (sub b 116 8)))) g ty (hcells (gR b t m 3)) := h.put 5 (.int .i64 (getV (sub b 116 8)))
theorem gR_3 {w : World} {g : Nat} {ty : TypeId} {b : L} {t : UInt8} {m : Bool} (h : Blk w g ty (hcells (gR b t m 3))) : Blk (w.setCell ⟨g, 6, none⟩ (.int .i64 (getV (sub b 124 12)))) g ty (hcells (gR b t m 4)) := h.put 6 (.int .i64 (getV (sub b 124 12)))
theorem gR_4 {w : World} {g : Nat} {ty : TypeId} {b : L} {t : UInt8} {m : Bool} (h : Blk w g ty (hcells (gR b t m 4))) : Blk (w.setCell ⟨g, 7, none⟩ (.int .i64 (getV (sub b 136 12)))) g ty (hcells (gR b t m 5)) := h.put 7 (.int .i64 (getV (sub b 136 12)))
theorem gR_5m {w : World} {g : Nat} {ty : TypeId} {b : L} {t : UInt8} (h : Blk w g ty (hcells (gR b t true 5))) : Blk (w.setCell ⟨g, 9, none⟩ (.int .i64 (getV (sub b 369 12)))) g ty (hcells (gR b t true 6)) := h.put 9 (.int .i64 (getV (sub b 369 12)))

theorem fin_m {w : World} {g : Nat} {ty : TypeId} {b : L} {t : UInt8} {H : Hd} (h : Blk w g ty (hcells (gR b t true 6))) (e : gR b t true 7 = H) : w.cell? ⟨g, 0, none⟩ = some (.string ⟨H.name.toArray⟩) ∧ w.cell? ⟨g, 1, none⟩ = some (.string ⟨H.pre.toArray⟩) ∧ w.cell? ⟨g, 2, none⟩ = some (.string ⟨H.link.toArray⟩) ∧ w.cell? ⟨g, 3, none⟩ = some (.int .i64 H.mode) ∧ w.cell? ⟨g, 4, none⟩ = some (.int .i64 H.uid) ∧ w.cell? ⟨g, 5, none⟩ = some (.int .i64 H.gid) ∧ w.cell? ⟨g, 6, none⟩ = some (.int .i64 H.size) ∧ w.cell? ⟨g, 7, none⟩ = some (.int .i64 H.time) ∧ w.cell? ⟨g, 8, none⟩ = some (.int .u8 (H.ty.toNat : Int)) ∧ w.cell? ⟨g, 9, none⟩ = some (.int .i64 H.off) ∧ getV (sub b 483 12) = H.real := by
  subst e
  obtain ⟨x0, x1, x2, x3, x4, x5, x6, x7, x8, x9, x10⟩ := hd_cells h
  refine ⟨?_, ?_, ?_, ?_, ?_, ?_, ?_, ?_, ?_, ?_, ?_⟩
  · simpa [gR] using x0
  · simpa [gR] using x1
  · simpa [gR] using x2
  · simpa [gR] using x3
  · simpa [gR] using x4
  · simpa [gR] using x5
  · simpa [gR] using x6
  · simpa [gR] using x7
  · simpa [gR] using x8
  · simpa [gR] using x9
  · simp [gR]
theorem fin_n {w : World} {g : Nat} {ty : TypeId} {b : L} {t : UInt8} {H : Hd} (h : Blk w g ty (hcells (gR b t false 5))) (e : gR b t false 6 = H) : w.cell? ⟨g, 0, none⟩ = some (.string ⟨H.name.toArray⟩) ∧ w.cell? ⟨g, 2, none⟩ = some (.string ⟨H.link.toArray⟩) ∧ w.cell? ⟨g, 3, none⟩ = some (.int .i64 H.mode) ∧ w.cell? ⟨g, 4, none⟩ = some (.int .i64 H.uid) ∧ w.cell? ⟨g, 5, none⟩ = some (.int .i64 H.gid) ∧ w.cell? ⟨g, 6, none⟩ = some (.int .i64 H.size) ∧ w.cell? ⟨g, 7, none⟩ = some (.int .i64 H.time) ∧ w.cell? ⟨g, 8, none⟩ = some (.int .u8 (H.ty.toNat : Int)) ∧ w.cell? ⟨g, 9, none⟩ = some (.int .i64 H.off) ∧ w.cell? ⟨g, 10, none⟩ = some (.int .i64 H.real) ∧ upto (sub b 345 155) = H.pre := by
  subst e
  obtain ⟨x0, x1, x2, x3, x4, x5, x6, x7, x8, x9, x10⟩ := hd_cells h
  refine ⟨?_, ?_, ?_, ?_, ?_, ?_, ?_, ?_, ?_, ?_, ?_⟩
  · simpa [gR] using x0
  · simpa [gR] using x2
  · simpa [gR] using x3
  · simpa [gR] using x4
  · simpa [gR] using x5
  · simpa [gR] using x6
  · simpa [gR] using x7
  · simpa [gR] using x8
  · simpa [gR] using x9
  · simpa [gR] using x10
  · simp [gR]

end Go.Proofs.YtopihahjjcpnpaaGreatDoor.Head

namespace Go.Proofs.YtopihahjjcpnpaaGreatDoor.Head
open Go.RowKit Go.Proofs.YtopihahjjcpnpaaGreatDoor.Base Go.Proofs.YtopihahjjcpnpaaGreatDoor.NumM Go.Proofs.YtopihahjjcpnpaaGreatDoor.Num

set_option linter.unusedSimpArgs false
end Go.Proofs.YtopihahjjcpnpaaGreatDoor.Head

