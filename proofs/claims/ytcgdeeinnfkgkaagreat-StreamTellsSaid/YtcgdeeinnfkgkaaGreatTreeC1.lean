/-
  Contracts of package tree: Find, Same, Under: no statement is proved here.
-/
import Derived.Test.YtcgdeeinnfkgkaaGreatTreeOne
import Derived.Test.YtcgdeeinnfkgkaaGreatPathK
namespace Go.Proofs.YtcgdeeinnfkgkaaGreat.Tree
open Go.RowKit Go.Proofs.YtcgdeeinnfkgkaaGreat.Base Go.Proofs.YtcgdeeinnfkgkaaGreat.Node Go.Proofs.YtcgdeeinnfkgkaaGreat.Long

set_option maxRecDepth 100000 in
/-- Is a node's path the one that is looked for? -/
theorem find1_s (n : Nd) (p : L) (g : Nat) (w : World) (hp : w.cell? ⟨g, 0, none⟩ = some (.string ⟨p.toArray⟩)) (hg : g < w.heap.size) :
    Calls Tryz.prog 88 #[nv n, .pointer (some ⟨g, 0, none⟩)] w fun e w' => e = .returned (.bool (n.path == p)) ∧ Stp w w' := by
  have h0 := Stp.refl w
  obtain ⟨q0, q1, q2, q3, q4, q5, q6, q7⟩ := nd_cells (Blk.new w 39 (ncells n))
  have hp2 : (w.alloc (.cells (ncells n) 39)).cell? ⟨g, 0, none⟩ = some (.string ⟨p.toArray⟩) := by rw [World.cell?_alloc_old _ _ _ (Nat.ne_of_lt hg)]; exact hp
  clear hp
  obtain ⟨b, hb⟩ : ∃ b, (n.path == p) = b := ⟨_, rfl⟩
  rw [hb]
  cases b
  all_goals
    go_enter Tryz.func88, Tryz.ntmps88
    go_wp2_with fail
    go_ret
    exact ⟨rfl, Stp.alloc h0 _⟩

set_option maxRecDepth 100000 in
set_option maxHeartbeats 2000000 in
theorem index_s (ns : List Nd) (p : L) (g : Nat) (A : Option Addr) (c : Nat) (w : World) (ha : RdN w A c ns) (hl : ns.length < 9223372036854775808) (hp : w.cell? ⟨g, 0, none⟩ = some (.string ⟨p.toArray⟩)) (hg : g < w.heap.size) :
    Calls Tryz.prog 87 #[.slice A ns.length c, .func (.func 88) #[] #[.pointer (some ⟨g, 0, none⟩)]] w fun e w' => e = .returned (.int .i64 (findV ns p)) ∧ Stp w w' := by
  obtain ⟨r, hr⟩ : ∃ r, findV ns p = r := ⟨_, rfl⟩
  have Hr := Lib.hid hr
  rw [hr]
  clear hr
  have Hp := Lib.hid hp
  have Ha := Lib.hid ha
  clear hp ha
  go_enter Tryz.func87, Tryz.ntmps87
  go_wp2_with fail
  go_loopw [5, 8] (fun _ i wr => ∃ k : Nat, k ≤ ns.length ∧ i = .int .i64 k ∧ Hid (Stp w wr) ∧ Hid (∀ (j : Nat) (m : Nd), j < k → ns[j]? = some m → m.path ≠ p)) (fun _ i _ => ns.length - (intOf i).toNat)
  case atStart => exact ⟨0, by omega, rfl, Lib.hid (Stp.refl w), Lib.hid (fun j m hj => by omega)⟩
  case round =>
    obtain ⟨k, hk, rfl, H1, Hn⟩ := hrel
    by_cases hlt : k < ns.length
    · obtain ⟨n, hn⟩ : ∃ n, ns[k]? = some n := ⟨_, List.getElem?_eq_getElem hlt⟩
      obtain ⟨b, o, rfl, hb, q0, q1, q2, q3, q4, q5, q6, q7⟩ := (Ha.out.keep H1.out).cells hn
      have Hk := Lib.hid hn
      have hc := Ha.out.1
      have Hg := Lib.hid (Nat.lt_of_lt_of_le hg H1.out.size)
      have Hpc := Lib.hid ((H1.out.cell (p := ⟨g, 0, none⟩) hg).trans Hp.out)
      clear hn
      by_cases he : n.path = p
      · have Hb := Lib.hid (show (n.path == p) = true from beq_iff_eq.2 he)
        have He := Lib.hid he
        clear he
        go_wp2_with (go_at_call 88; refine (find1_s n p g _ Hpc.out Hg.out).mono ?_; rintro e w2 ⟨rfl, hs⟩; rw [Hb.out]; have H2 := Lib.hid (Stp.trans H1.out hs); clear hs)
        go_ret
        refine ⟨congrArg (fun x => Ending.returned (.int .i64 x)) ?_, H2.out⟩
        rw [← Hr.out, findV, findN_of Hk.out He.out Hn.out]
      · have Hb := Lib.hid (show (n.path == p) = false from beq_eq_false_iff_ne.2 he)
        have Hs := Lib.hid (none_step Hk.out he Hn.out)
        clear he
        go_wp2_with (go_at_call 88; refine (find1_s n p g _ Hpc.out Hg.out).mono ?_; rintro e w2 ⟨rfl, hs⟩; rw [Hb.out]; have H2 := Lib.hid (Stp.trans H1.out hs); clear hs)
        go_roundw
        case rel => exact ⟨k + 1, by omega, by go_num, H2, Hs⟩
        case measure => simp [intOf]; omega
    · obtain rfl : k = ns.length := by omega
      have hn := Hn.out
      go_wp2_with fail
      go_ret
      refine ⟨congrArg (fun x => Ending.returned (.int .i64 x)) ?_, H1.out⟩
      rw [← Hr.out, findV, findN_none (fun j m hm => hn j m (List.getElem?_eq_some_iff.1 hm).1 hm)]

set_option maxRecDepth 100000 in
theorem tfind_s (ns : List Nd) (p : L) (A : Option Addr) (c : Nat) (w : World) (ha : RdN w A c ns) (hl : ns.length ≤ 1000) :
    Calls Tryz.prog 63 #[.slice A ns.length c, .string ⟨p.toArray⟩] w fun e w' => e = .returned (.int .i64 (findV ns p)) ∧ Stp w w' := by
  have h0 := Stp.refl w
  have hmf : ∀ (fn : Fn) (first cap : Array Value) (w : World), (Instr.makeFunc fn first cap).run Tryz.prog w = .ok (.func fn first cap) w := fun _ _ _ _ => rfl
  have H1 := Lib.hid (Stp.alloc h0 (.cells #[.string ⟨p.toArray⟩] 9))
  go_enter Tryz.func63, Tryz.ntmps63
  go_wp2_with (go_at_call 87; refine (index_s ns p w.heap.size A c _ (ha.keep H1.out) (by omega) (by rw [World.cell?_alloc_new]; rfl) (by rw [World.size_alloc]; omega)).mono ?_; rintro e w2 ⟨rfl, hs⟩; have H2 := Lib.hid (Stp.trans H1.out hs); clear hs)
  go_ret
  exact ⟨rfl, H2.out⟩

end Go.Proofs.YtcgdeeinnfkgkaaGreat.Tree
