/-
  Contracts of what the laws of package tree share: few nodes, the two nodes, the chapter's example: no statement is proved here.
-/
import Derived.Test.YtcgdeeinnfkgkaaGreatTreeC5
import Derived.Test.YtcgdeeinnfkgkaaGreatLongTx
namespace Go.Proofs.YtcgdeeinnfkgkaaGreat.Tree
open Go.RowKit Go.Proofs.YtcgdeeinnfkgkaaGreat.Base Go.Proofs.YtcgdeeinnfkgkaaGreat.Node Go.Proofs.YtcgdeeinnfkgkaaGreat.Long

def fewT (ns : List Nd) : Bool := decide (ns.length ≤ 30) && ns.all fewN
theorem fewT_iff {ns : List Nd} : fewT ns = true ↔ ns.length ≤ 30 ∧ ∀ n ∈ ns, fewN n = true := by simp [fewT]
theorem fewT_no {ns : List Nd} {k : Nat} {n : Nd} (hk : ns[k]? = some n) (h : fewN n = false) : fewT ns = false := by
  rw [Bool.eq_false_iff]
  intro hf
  rw [(fewT_iff.1 hf).2 n (List.mem_of_getElem? hk)] at h
  cases h
theorem all_next {ns : List Nd} {k : Nat} {n : Nd} (hk : ns[k]? = some n) (hn : fewN n = true) (h : ∀ (j : Nat) (m : Nd), j < k → ns[j]? = some m → fewN m = true) : ∀ (j : Nat) (m : Nd), j < k + 1 → ns[j]? = some m → fewN m = true := by
  intro j m hj hm
  by_cases e : j = k
  · subst e
    rw [hk] at hm
    cases hm
    exact hn
  · exact h j m (by omega) hm
set_option maxRecDepth 100000 in
set_option maxHeartbeats 2000000 in
theorem fewt_s (ns : List Nd) (A : Option Addr) (c : Nat) (w : World) (ha : RdN w A c ns) (hl : ns.length < 9223372036854775808) :
    Calls Tryz.prog 5 #[.slice A ns.length c] w fun e w' => e = .returned (.bool (fewT ns)) ∧ Stp w w' := by
  obtain ⟨R, hR⟩ : ∃ R, fewT ns = R := ⟨_, rfl⟩
  have HR := Lib.hid hR
  rw [hR]
  have Ha := Lib.hid ha
  clear hR ha
  go_enter Tryz.func5, Tryz.ntmps5
  go_wp2_with fail
  go_loopw [3] (fun i wr => ∃ k : Nat, k ≤ ns.length ∧ k ≤ 31 ∧ i = .int .i64 k ∧ Hid (Stp w wr) ∧ Hid (∀ (j : Nat) (m : Nd), j < k → ns[j]? = some m → fewN m = true)) (fun i _ => ns.length - (intOf i).toNat)
  case atStart => exact ⟨0, by omega, by omega, rfl, Lib.hid (Stp.refl w), Lib.hid (fun j m hj => by omega)⟩
  case round =>
    obtain ⟨k, hk, hk31, rfl, H1, Hy⟩ := hrel
    by_cases hlt : k < ns.length
    · by_cases h30 : k ≤ 30
      · obtain ⟨n, hn⟩ : ∃ n, ns[k]? = some n := ⟨_, List.getElem?_eq_getElem hlt⟩
        obtain ⟨b, o, rfl, -, q0, q1, q2, q3, q4, q5, q6, q7⟩ := (Ha.out.keep H1.out).cells hn
        have hc := Ha.out.1
        have Hk := Lib.hid hn
        obtain ⟨f, hf⟩ : ∃ f, fewN n = f := ⟨_, rfl⟩
        have Hf := Lib.hid hf
        have gl : decide ((k : Int) < (ns.length : Int)) = true := decide_eq_true (by omega)
        have g30 : decide ((k : Int) ≤ 30) = true := decide_eq_true (by omega)
        clear hn hf
        go_wp2_with (go_at_call 17; refine (few_s n _).mono ?_; rintro e w2 ⟨rfl, hs2⟩; rw [Hf.out]; have H2 := Lib.hid (Stp.trans H1.out hs2); clear hs2; rcases f)
        · go_ret
          refine ⟨congrArg (fun b => Ending.returned (.bool b)) ?_, H2.out⟩
          rw [← HR.out, fewT_no Hk.out Hf.out]
        · go_roundw
          case rel => exact ⟨k + 1, by omega, by omega, by go_num, H2, Lib.hid (all_next Hk.out Hf.out Hy.out)⟩
          case measure => simp [intOf]; omega
      · have gl : decide ((k : Int) < (ns.length : Int)) = true := decide_eq_true (by omega)
        have g30 : decide ((k : Int) ≤ 30) = false := decide_eq_false (by omega)
        have gn : decide ((ns.length : Int) ≤ 30) = false := decide_eq_false (by omega)
        have hno : fewT ns = false := by
          rw [Bool.eq_false_iff]
          intro h
          have := (fewT_iff.1 h).1
          omega
        rw [HR.out] at hno
        subst hno
        clear h30
        go_wp2_with fail
        go_ret
        exact ⟨rfl, H1.out⟩
    · obtain rfl : k = ns.length := by omega
      have hfin : fewT ns = decide (ns.length ≤ 30) := by
        have hall : ns.all fewN = true := List.all_eq_true.2 fun n hn => by
          obtain ⟨j, hj⟩ := List.getElem?_of_mem hn
          exact Hy.out j n (List.getElem?_eq_some_iff.1 hj).1 hj
        unfold fewT
        rw [hall]
        simp
      have Hfin := Lib.hid hfin
      clear hfin
      go_wp2_with fail
      all_goals go_ret
      all_goals refine ⟨congrArg (fun b => Ending.returned (.bool b)) ?_, H1.out⟩
      all_goals rw [← HR.out, Hfin.out, Bool.eq_iff_iff]
      all_goals simp only [decide_eq_true_eq]
      all_goals omega

def nodeA : Nd := ⟨[97], [], 53, 493, 0, 0, 0, []⟩
def nodeB : Nd := ⟨[97, 47, 98], [], 48, 420, 0, 0, 7, [104, 101, 108, 108, 111]⟩
set_option maxRecDepth 100000 in
theorem two_s (w : World) : Calls Tryz.prog 16 #[] w fun e w' => ∃ g, e = .returned (.slice (some ⟨g, 0, none⟩) 2 2) ∧ RdN w' (some ⟨g, 0, none⟩) 2 [nodeA, nodeB] ∧ Stp w w' := by
  have h0 := Stp.refl w
  go_enter Tryz.func16, Tryz.ntmps16
  go_wp2_with fail
  go_ret
  refine ⟨w.heap.size, rfl, ⟨by simp, fun _ => ⟨w.heap.size, 0, rfl, by simp, fun q u hq => ?_⟩⟩, Stp.alloc h0 _⟩
  rw [Nat.zero_add, World.cell?_alloc_new]
  have e : (ntc [nodeA, nodeB])[q]? = (ntc [nodeA, nodeB]).toArray[q]? := by simp
  rw [e] at hq
  exact hq
theorem ex_facts : mayT [nodeA, nodeB] = true ∧ oneB nodeA = true ∧ findV [nodeA, nodeB] [97, 47, 98] = 1 ∧ (underV [nodeA, nodeB] [97]).length = 1 ∧ mayT [nodeB] = false := by decide +kernel
end Go.Proofs.YtcgdeeinnfkgkaaGreat.Tree
