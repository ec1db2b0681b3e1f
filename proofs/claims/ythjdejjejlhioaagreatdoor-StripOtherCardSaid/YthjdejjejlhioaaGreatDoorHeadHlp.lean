/-
  Headers compared, and the law's own helpers: no statement is proved here.
  What the statements' walks share: no statement is proved here.
-/
import Derived.Test.YthjdejjejlhioaaGreatDoorHeadGet
import Derived.Test.YthjdejjejlhioaaGreatDoorHeadM3
namespace Go.Proofs.YthjdejjejlhioaaGreatDoor.Head
open Go.RowKit Go.Proofs.YthjdejjejlhioaaGreatDoor.Base Go.Proofs.YthjdejjejlhioaaGreatDoor.NumM Go.Proofs.YthjdejjejlhioaaGreatDoor.Num

theorem Hd.ext_iff' (g k : Hd) : g = k ↔ (g.name = k.name ∧ g.pre = k.pre ∧ g.link = k.link ∧ g.mode = k.mode ∧ g.uid = k.uid ∧ g.gid = k.gid ∧ g.size = k.size ∧ g.time = k.time ∧ g.ty = k.ty ∧ g.off = k.off ∧ g.real = k.real) := by
  cases g; cases k; simp
set_option maxRecDepth 100000 in
theorem eq_heads (g k : Hd) (w : World) : (Op.equalIn 10000 113 (hv g) (hv k)).run Tryz.prog w = .ok (decide (g = k)) w := by
  rw [show (10000 : Nat) = 9999 + 1 from rfl, run_equalIn_struct (P := Tryz.prog) w 9999 113 _ _ (by kernel_rfl) (by kernel_rfl)]
  have hf : (Tryz.prog.fieldsOf 113).toList = (Tryz.prog.fieldsOf 113).toList := rfl
  conv at hf => rhs; whnf
  rw [hf]
  go_simp
  have hty : ((g.ty.toNat : Int) = (k.ty.toNat : Int)) ↔ g.ty = k.ty := by
    constructor
    · intro h
      exact UInt8.toNat_inj.1 (by omega)
    · intro h
      rw [h]
  by_cases h : g = k
  · subst h
    simp
  · rw [decide_eq_false h]
    rw [Hd.ext_iff', ← hty] at h
    clear hty hf
    repeat' split
    all_goals first | rfl | exact absurd (by simp only [*, and_self]) h

def oneH (name : L) (size : Int) : Hd := ⟨name, [], [], 420, 0, 0, size, 1000, 48, 0, 0⟩
theorem one_small : SmallH (oneH [97] 0) := by constructor <;> decide
end Go.Proofs.YthjdejjejlhioaaGreatDoor.Head

namespace Go.Proofs.YthjdejjejlhioaaGreatDoor.Head
open Go.RowKit Go.Proofs.YthjdejjejlhioaaGreatDoor.Base Go.Proofs.YthjdejjejlhioaaGreatDoor.NumM Go.Proofs.YthjdejjejlhioaaGreatDoor.Num

theorem putB_yes {h : Hd} (hm : mayH h = true) : putB h = blk h := by unfold putB; rw [if_pos hm]
theorem byte_at {w : World} {A : Option Addr} {c : Nat} {l : L} (h : RdA w A c (bs l)) {j : Nat} {x : UInt8} (hx : l[j]? = some x) : ∃ b o, A = some ⟨b, o, none⟩ ∧ w.cell? ⟨b, o + j, none⟩ = some (.int .u8 (x.toNat : Int)) := by
  have hj := (List.getElem?_eq_some_iff.1 hx).1
  obtain ⟨b, o, rfl, hc⟩ := h.at_ (j := j) (by rw [bs_length]; exact hj)
  exact ⟨b, o, rfl, hc j _ (by rw [bs_at hj, ← (List.getElem?_eq_some_iff.1 hx).2])⟩
/-- A row of the call's own, as a slice that is read. -/
theorem own_rdA {w : World} {lo g n cap : Nat} {l : L} (h : Base.Own w lo 5 (.slice (some ⟨g, 0, none⟩) n cap) (bs l)) (hn : l.length = n) : RdA w (some ⟨g, 0, none⟩) cap (bs l) := by
  subst hn
  have := h.rd
  unfold RdA
  rwa [bs_length]
theorem own_cell {w : World} {lo g n cap : Nat} {l : L} (h : Base.Own w lo 5 (.slice (some ⟨g, 0, none⟩) n cap) (bs l)) (hn : l.length = n) {i : Nat} {x : UInt8} (hx : l[i]? = some x) : w.cell? ⟨g, i, none⟩ = some (.int .u8 (x.toNat : Int)) := by
  obtain ⟨b, o, e, hc⟩ := byte_at (own_rdA h hn) hx
  simp only [Option.some.injEq, Addr.mk.injEq, and_true] at e
  obtain ⟨rfl, rfl⟩ := e
  rwa [Nat.zero_add] at hc
end Go.Proofs.YthjdejjejlhioaaGreatDoor.Head

