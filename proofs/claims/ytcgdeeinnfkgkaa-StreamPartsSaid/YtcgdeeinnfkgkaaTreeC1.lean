/-
  Contracts of package tree: Find, Same, Under: no statement is proved here.
-/
import Derived.Test.YtcgdeeinnfkgkaaTreeOne
import Derived.Test.YtcgdeeinnfkgkaaPathK
namespace Go.Proofs.Ytcgdeeinnfkgkaa.Tree
open Go.RowKit Go.Proofs.Ytcgdeeinnfkgkaa.Base Go.Proofs.Ytcgdeeinnfkgkaa.Node Go.Proofs.Ytcgdeeinnfkgkaa.Long

set_option maxRecDepth 100000 in
/-- Is a node's path the one that is looked for? -/
theorem find1_s (n : Nd) (p : L) (g : Nat) (w : World) (hp : w.cell? ⟨g, 0, none⟩ = some (.string ⟨p.toArray⟩)) (hg : g < w.heap.size) :
    Calls Try.prog 59 #[nv n, .pointer (some ⟨g, 0, none⟩)] w fun e w' => e = .returned (.bool (n.path == p)) ∧ Stp w w' := by
  have h0 := Stp.refl w
  obtain ⟨q0, q1, q2, q3, q4, q5, q6, q7⟩ := nd_cells (Blk.new w 32 (ncells n))
  have hp2 : (w.alloc (.cells (ncells n) 32)).cell? ⟨g, 0, none⟩ = some (.string ⟨p.toArray⟩) := by rw [World.cell?_alloc_old _ _ _ (Nat.ne_of_lt hg)]; exact hp
  clear hp
  obtain ⟨b, hb⟩ : ∃ b, (n.path == p) = b := ⟨_, rfl⟩
  rw [hb]
  cases b
  all_goals
    go_enter Try.func59, Try.ntmps59
    go_wp2_with fail
    go_ret
    exact ⟨rfl, Stp.alloc h0 _⟩

set_option maxRecDepth 100000 in
set_option maxHeartbeats 2000000 in
theorem index_s (ns : List Nd) (p : L) (g : Nat) (A : Option Addr) (c : Nat) (w : World) (ha : RdN w A c ns) (hl : ns.length < 9223372036854775808) (hp : w.cell? ⟨g, 0, none⟩ = some (.string ⟨p.toArray⟩)) (hg : g < w.heap.size) :
    Calls Try.prog 58 #[.slice A ns.length c, .func (.func 59) #[] #[.pointer (some ⟨g, 0, none⟩)]] w fun e w' => e = .returned (.int .i64 (findV ns p)) ∧ Stp w w' := by
  obtain ⟨r, hr⟩ : ∃ r, findV ns p = r := ⟨_, rfl⟩
  have Hr := Lib.hid hr
  rw [hr]
  clear hr
  have Hp := Lib.hid hp
  have Ha := Lib.hid ha
  clear hp ha
  go_enter Try.func58, Try.ntmps58
  go_wp2_with fail
  go_loopw [5, 8] (fun _ i wr => ∃ k : Nat, k ≤ ns.length ∧ i = .int .i64 k ∧ Hid (Stp w wr) ∧ Hid (∀ (j : Nat) (m : Nd), j < k → ns[j]? = some m → m.path ≠ p)) (fun _ i _ => ns.length - (intOf i).toNat)
  case atStart => exact ⟨0, by omega, rfl, Lib.hid (Stp.refl w), Lib.hid (fun j m hj => by omega)⟩
  case round =>
    obtain ⟨k, hk, rfl, H1, Hn⟩ := hrel
    by_cases hlt : k < ns.length
    · obtain ⟨n, hn⟩ : ∃ n, ns[k]? = some n := ⟨_, List.getElem?_eq_getElem hlt⟩
      obtain ⟨b, o, rfl, hb, q0, q1, q2, q3, q4, q5, q6, q7⟩ := (Ha.out.keep H1.out).cells hn
      have Hk := Lib.hid hn
      have hc := Ha.out.1
      have Hg := Lib.hid (Nat.lt_of_lt_of_le hg H1.out.size)
      have Hpc := Lib.hid ((H1.out.cell (p := ⟨g, 0, none⟩) hg).trans Hp.out)
      clear hn
      by_cases he : n.path = p
      · have Hb := Lib.hid (show (n.path == p) = true from beq_iff_eq.2 he)
        have He := Lib.hid he
        clear he
        go_wp2_with (go_at_call 59; refine (find1_s n p g _ Hpc.out Hg.out).mono ?_; rintro e w2 ⟨rfl, hs⟩; rw [Hb.out]; have H2 := Lib.hid (Stp.trans H1.out hs); clear hs)
        go_ret
        refine ⟨congrArg (fun x => Ending.returned (.int .i64 x)) ?_, H2.out⟩
        rw [← Hr.out, findV, findN_of Hk.out He.out Hn.out]
      · have Hb := Lib.hid (show (n.path == p) = false from beq_eq_false_iff_ne.2 he)
        have Hs := Lib.hid (none_step Hk.out he Hn.out)
        clear he
        go_wp2_with (go_at_call 59; refine (find1_s n p g _ Hpc.out Hg.out).mono ?_; rintro e w2 ⟨rfl, hs⟩; rw [Hb.out]; have H2 := Lib.hid (Stp.trans H1.out hs); clear hs)
        go_roundw
        case rel => exact ⟨k + 1, by omega, by go_num, H2, Hs⟩
        case measure => simp [intOf]; omega
    · obtain rfl : k = ns.length := by omega
      have hn := Hn.out
      go_wp2_with fail
      go_ret
      refine ⟨congrArg (fun x => Ending.returned (.int .i64 x)) ?_, H1.out⟩
      rw [← Hr.out, findV, findN_none (fun j m hm => hn j m (List.getElem?_eq_some_iff.1 hm).1 hm)]

set_option maxRecDepth 100000 in
theorem tfind_s (ns : List Nd) (p : L) (A : Option Addr) (c : Nat) (w : World) (ha : RdN w A c ns) (hl : ns.length ≤ 1000) :
    Calls Try.prog 38 #[.slice A ns.length c, .string ⟨p.toArray⟩] w fun e w' => e = .returned (.int .i64 (findV ns p)) ∧ Stp w w' := by
  have h0 := Stp.refl w
  have hmf : ∀ (fn : Fn) (first cap : Array Value) (w : World), (Instr.makeFunc fn first cap).run Try.prog w = .ok (.func fn first cap) w := fun _ _ _ _ => rfl
  have H1 := Lib.hid (Stp.alloc h0 (.cells #[.string ⟨p.toArray⟩] 9))
  go_enter Try.func38, Try.ntmps38
  go_wp2_with (go_at_call 58; refine (index_s ns p w.heap.size A c _ (ha.keep H1.out) (by omega) (by rw [World.cell?_alloc_new]; rfl) (by rw [World.size_alloc]; omega)).mono ?_; rintro e w2 ⟨rfl, hs⟩; have H2 := Lib.hid (Stp.trans H1.out hs); clear hs)
  go_ret
  exact ⟨rfl, H2.out⟩

set_option maxRecDepth 100000 in
set_option maxHeartbeats 2000000 in
theorem equal_s (ns ms : List Nd) (A B : Option Addr) (c d : Nat) (w : World) (ha : RdN w A c ns) (hb : RdN w B d ms) (hm : ms.length < 9223372036854775808) :
    Calls Try.prog 34 #[.slice A ns.length c, .slice B ms.length d] w fun e w' => e = .returned (.bool (ns == ms)) ∧ Stp w w' := by
  have h0 := Stp.refl w
  by_cases hlen : ns.length = ms.length
  · obtain ⟨N, hN⟩ : ∃ N, ms.length = N := ⟨_, rfl⟩
    rw [hN] at hlen
    rw [hlen, hN]
    have HN := Lib.hid hN
    have HL := Lib.hid hlen
    rw [hN] at hm
    clear hN hlen
    go_enter Try.func34, Try.ntmps34
    go_wp2_with fail
    go_loopw [5, 13] (fun _ i wr => ∃ k : Nat, k ≤ N ∧ i = .int .i64 k ∧ Stp w wr ∧ Hid (ns.take k = ms.take k)) (fun _ i _ => N - (intOf i).toNat)
    case atStart => exact ⟨0, by omega, rfl, Stp.refl w, Lib.hid (by simp)⟩
    case round =>
      obtain ⟨k, hk, rfl, hst, Ht⟩ := hrel
      by_cases hlt : k < N
      · obtain ⟨x, hx⟩ : ∃ n, ns[k]? = some n := ⟨_, List.getElem?_eq_getElem (by rw [HL.out]; exact hlt)⟩
        obtain ⟨y, hy⟩ : ∃ n, ms[k]? = some n := ⟨_, List.getElem?_eq_getElem (by rw [HN.out]; exact hlt)⟩
        have ha1 := ha.keep hst
        have hb1 := hb.keep hst
        obtain ⟨b1, o1, rfl, -, q0, q1, q2, q3, q4, q5, q6, q7⟩ := ha1.cells hx
        obtain ⟨b2, o2, rfl, -, r0, r1, r2, r3, r4, r5, r6, r7⟩ := hb1.cells hy
        have Hx := Lib.hid hx
        have Hy := Lib.hid hy
        have heq := eq_nodes x y
        have hng := noGuardN
        clear hx hy ha1 hb1
        by_cases e : x = y
        · rw [decide_eq_true e] at heq
          have Hnext := Lib.hid ((take_next Hx.out Hy.out Ht.out).2 e)
          clear e
          go_wp2_with fail
          go_quiet (fail)
          go_wp2_with fail
          go_roundw
          case rel => exact ⟨k + 1, by omega, by go_num, hst.drewN _, Hnext⟩
          case measure => simp [intOf]; omega
        · rw [decide_eq_false e] at heq
          have Hne := Lib.hid e
          clear e
          go_wp2_with fail
          go_quiet (fail)
          go_wp2_with fail
          go_ret
          refine ⟨congrArg (fun b => Ending.returned (.bool b)) ?_, hst.drewN _⟩
          symm
          rw [beq_eq_false_iff_ne]
          rintro rfl
          have h1 := Hx.out
          rw [Hy.out] at h1
          exact Hne.out (Option.some.inj h1).symm
      · obtain rfl : k = N := by omega
        have ht := Ht.out
        rw [List.take_of_length_le (by rw [HL.out]; exact Nat.le_refl _), List.take_of_length_le (by rw [HN.out]; exact Nat.le_refl _)] at ht
        have Ht2 := Lib.hid ht
        clear ht
        go_wp2_with fail
        go_ret
        exact ⟨by rw [Ht2.out]; simp, hst⟩
  · have g : ((ns.length : Int) != (ms.length : Int)) = true := by simp; omega
    have e : (ns == ms) = false := by
      rw [beq_eq_false_iff_ne]
      rintro rfl
      exact hlen rfl
    rw [e]
    clear e hlen
    go_enter Try.func34, Try.ntmps34
    go_wp2_with fail
    go_ret
    exact ⟨rfl, h0⟩
set_option maxRecDepth 100000 in
theorem tsame_s (ns ms : List Nd) (A B : Option Addr) (c d : Nat) (w : World) (ha : RdN w A c ns) (hb : RdN w B d ms) (hl : ns.length ≤ 1000) (hm : ms.length ≤ 1000) :
    Calls Try.prog 18 #[.slice A ns.length c, .slice B ms.length d] w fun e w' => e = .returned (.bool (ns == ms)) ∧ Stp w w' := by
  have h0 := Stp.refl w
  have Hl := Lib.hid hl
  go_enter Try.func18, Try.ntmps18
  go_wp2_with (go_at_call 34; refine (equal_s ns ms A B c d _ ha hb (by omega)).mono ?_; rintro e w1 ⟨rfl, hs⟩; have H := Stp.trans h0 hs)
  go_ret
  exact ⟨rfl, H⟩

end Go.Proofs.Ytcgdeeinnfkgkaa.Tree
