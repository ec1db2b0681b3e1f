/-
  The document's own answers for package tree: One, Find, has, Same, Under: no statement is proved here.
  The document's own answers for package tree: One: no statement is proved here.
-/
import Derived.Test.YthjdejjejlhioaaGreatDoorEntryM
import Derived.Test.YthjdejjejlhioaaGreatDoorNodes
import Derived.Test.YthjdejjejlhioaaGreatDoorPathRef
import Derived.Deep.QuietTactic
import Derived.BigQuiet
namespace Go.Proofs.YthjdejjejlhioaaGreatDoor.Tree
open Go.RowKit Go.Proofs.YthjdejjejlhioaaGreatDoor.Base Go.Proofs.YthjdejjejlhioaaGreatDoor.Node Go.Proofs.YthjdejjejlhioaaGreatDoor.Long

theorem Nd.ext_iff' (g k : Nd) : g = k ↔ (g.path = k.path ∧ g.link = k.link ∧ g.kind = k.kind ∧ g.mode = k.mode ∧ g.uid = k.uid ∧ g.gid = k.gid ∧ g.time = k.time ∧ g.data = k.data) := by
  cases g; cases k; simp
set_option maxRecDepth 100000 in
theorem eq_nodes (g k : Nd) (w : World) : (Op.equalIn 10000 44 (nv g) (nv k)).run Tryz.prog w = .ok (decide (g = k)) w := by
  rw [show (10000 : Nat) = 9999 + 1 from rfl, run_equalIn_struct (P := Tryz.prog) w 9999 44 _ _ (by kernel_rfl) (by kernel_rfl)]
  have hf : (Tryz.prog.fieldsOf 44).toList = (Tryz.prog.fieldsOf 44).toList := rfl
  conv at hf => rhs; whnf
  rw [hf]
  go_simp
  have hty : ((g.kind.toNat : Int) = (k.kind.toNat : Int)) ↔ g.kind = k.kind := by
    constructor
    · intro h
      exact UInt8.toNat_inj.1 (by omega)
    · intro h
      rw [h]
  by_cases h : g = k
  · subst h
    simp
  · rw [decide_eq_false h]
    rw [Nd.ext_iff', ← hty] at h
    clear hty hf
    repeat' split
    all_goals first | rfl | exact absurd (by simp only [*, and_self]) h
theorem noGuardN : Tryz.prog.eqGuardType Tryz.prog.depth 44 = false := by kernel_rfl
theorem take_next {ns ms : List Nd} {k : Nat} {l m : Nd} (hl : ns[k]? = some l) (hm : ms[k]? = some m) (h : ns.take k = ms.take k) : (ns.take (k + 1) = ms.take (k + 1)) ↔ l = m := by
  rw [List.take_add_one, List.take_add_one, hl, hm, h]
  simp

set_option maxRecDepth 100000 in
set_option maxHeartbeats 2000000 in
theorem rsame_s (ns ms : List Nd) (A B : Option Addr) (c d : Nat) (w : World) (ha : RdN w A c ns) (hb : RdN w B d ms) (hm : ms.length < 9223372036854775808) :
    Calls Tryz.prog 16 #[.slice A ns.length c, .slice B ms.length d] w fun e w' => e = .returned (.bool (ns == ms)) ∧ Stp w w' := by
  have h0 := Stp.refl w
  by_cases hlen : ns.length = ms.length
  · obtain ⟨N, hN⟩ : ∃ N, ms.length = N := ⟨_, rfl⟩
    rw [hN] at hlen
    rw [hlen, hN]
    have HN := Lib.hid hN
    have HL := Lib.hid hlen
    rw [hN] at hm
    clear hN hlen
    go_enter Tryz.func16, Tryz.ntmps16
    go_wp2_with fail
    go_loopw [5] (fun i wr => ∃ k : Nat, k ≤ N ∧ i = .int .i64 k ∧ Stp w wr ∧ Hid (ns.take k = ms.take k)) (fun i _ => N - (intOf i).toNat)
    case atStart => exact ⟨0, by omega, rfl, Stp.refl w, Lib.hid (by simp)⟩
    case round =>
      obtain ⟨k, hk, rfl, hst, Ht⟩ := hrel
      by_cases hlt : k < N
      · obtain ⟨x, hx⟩ : ∃ n, ns[k]? = some n := ⟨_, List.getElem?_eq_getElem (by rw [HL.out]; exact hlt)⟩
        obtain ⟨y, hy⟩ : ∃ n, ms[k]? = some n := ⟨_, List.getElem?_eq_getElem (by rw [HN.out]; exact hlt)⟩
        have ha1 := ha.keep hst
        have hb1 := hb.keep hst
        obtain ⟨b1, o1, rfl, -, q0, q1, q2, q3, q4, q5, q6, q7⟩ := ha1.cells hx
        obtain ⟨b2, o2, rfl, -, r0, r1, r2, r3, r4, r5, r6, r7⟩ := hb1.cells hy
        have Hx := Lib.hid hx
        have Hy := Lib.hid hy
        have heq := eq_nodes x y
        have hng := noGuardN
        clear hx hy ha1 hb1
        by_cases e : x = y
        · rw [decide_eq_true e] at heq
          have Hnext := Lib.hid ((take_next Hx.out Hy.out Ht.out).2 e)
          clear e
          go_wp2_with fail
          go_quiet (fail)
          go_wp2_with fail
          go_roundw
          case rel => exact ⟨k + 1, by omega, by go_num, hst.drewN _, Hnext⟩
          case measure => simp [intOf]; omega
        · rw [decide_eq_false e] at heq
          have Hne := Lib.hid e
          clear e
          go_wp2_with fail
          go_quiet (fail)
          go_wp2_with fail
          go_ret
          refine ⟨congrArg (fun b => Ending.returned (.bool b)) ?_, hst.drewN _⟩
          symm
          rw [beq_eq_false_iff_ne]
          rintro rfl
          have h1 := Hx.out
          rw [Hy.out] at h1
          exact Hne.out (Option.some.inj h1).symm
      · obtain rfl : k = N := by omega
        have ht := Ht.out
        rw [List.take_of_length_le (by rw [HL.out]; exact Nat.le_refl _), List.take_of_length_le (by rw [HN.out]; exact Nat.le_refl _)] at ht
        have Ht2 := Lib.hid ht
        clear ht
        go_wp2_with fail
        go_ret
        exact ⟨by rw [Ht2.out]; simp, hst⟩
  · have g : ((ns.length : Int) != (ms.length : Int)) = true := by simp; omega
    have e : (ns == ms) = false := by
      rw [beq_eq_false_iff_ne]
      rintro rfl
      exact hlen rfl
    rw [e]
    clear e hlen
    go_enter Tryz.func16, Tryz.ntmps16
    go_wp2_with fail
    go_ret
    exact ⟨rfl, h0⟩

theorem node_info : (Tryz.prog.info? 44).map (fun i => (i.zero, i.size, i.bytes)) = some (some (nv zeroN), 8, 88) := by kernel_rfl
end Go.Proofs.YthjdejjejlhioaaGreatDoor.Tree

namespace Go.Proofs.YthjdejjejlhioaaGreatDoor.Tree
open Go.RowKit Go.Proofs.YthjdejjejlhioaaGreatDoor.Base Go.Proofs.YthjdejjejlhioaaGreatDoor.Node Go.Proofs.YthjdejjejlhioaaGreatDoor.Long

end Go.Proofs.YthjdejjejlhioaaGreatDoor.Tree

