/-
  The document's own answers for package tree: May: no statement is proved here.
-/
import Derived.Test.YtieefnnfnimflaaTreeOne
namespace Go.Proofs.Ytieefnnfnimflaa.Tree
open Go.RowKit Go.Proofs.Ytieefnnfnimflaa.Base Go.Proofs.Ytieefnnfnimflaa.Node Go.Proofs.Ytieefnnfnimflaa.Long

theorem mayT_iff {ns : List Nd} : mayT ns = true ↔ ns.length ≤ 20 ∧ ∀ (j : Nat) (m : Nd), ns[j]? = some m → stepB (ns.take j) m = true := by
  unfold mayT
  rw [Bool.and_eq_true, decide_eq_true_eq, List.all_eq_true]
  refine and_congr_right fun _ => ⟨fun h j m hj => ?_, fun h j hj => ?_⟩
  · have := h j (by rw [List.mem_range]; exact (List.getElem?_eq_some_iff.1 hj).1)
    rw [hj] at this
    simpa using this
  · rw [List.mem_range] at hj
    rw [List.getElem?_eq_getElem hj]
    simpa using h j _ (List.getElem?_eq_getElem hj)
theorem mayT_long {ns : List Nd} (h : ¬ ns.length ≤ 20) : mayT ns = false := by
  rw [Bool.eq_false_iff]
  intro hm
  exact h (mayT_iff.1 hm).1
theorem mayT_no {ns : List Nd} {k : Nat} {n : Nd} (hk : ns[k]? = some n) (h : stepB (ns.take k) n = false) : mayT ns = false := by
  rw [Bool.eq_false_iff]
  intro hm
  rw [(mayT_iff.1 hm).2 k n hk] at h
  cases h
theorem mayT_yes {ns : List Nd} (hl : ns.length ≤ 20) (h : ∀ (j : Nat) (m : Nd), j < ns.length → ns[j]? = some m → stepB (ns.take j) m = true) : mayT ns = true :=
  mayT_iff.2 ⟨hl, fun j m hj => h j m (List.getElem?_eq_some_iff.1 hj).1 hj⟩
theorem yes_step {ns : List Nd} {k : Nat} {n : Nd} (hk : ns[k]? = some n) (hn : stepB (ns.take k) n = true) (h : ∀ (j : Nat) (m : Nd), j < k → ns[j]? = some m → stepB (ns.take j) m = true) : ∀ (j : Nat) (m : Nd), j < k + 1 → ns[j]? = some m → stepB (ns.take j) m = true := by
  intro j m hj hm
  by_cases e : j = k
  · subst e
    rw [hk] at hm
    cases hm
    exact hn
  · exact h j m (by omega) hm
/-- What is asked of a node's path and the one ahead. -/
def riseB (ns : List Nd) (k : Nat) (n : Nd) : Bool := match (ns.take k).getLast? with | none => true | some m => !(Op.bytesLess n.path m.path || n.path == m.path)
theorem rise_zero (ns : List Nd) (n : Nd) : riseB ns 0 n = true := rfl
theorem rise_succ {ns : List Nd} {k : Nat} {m : Nd} (h : ns[k]? = some m) (n : Nd) : riseB ns (k + 1) n = !(Op.bytesLess n.path m.path || n.path == m.path) := by
  unfold riseB
  rw [List.take_add_one, h]
  simp
theorem step_is (ns : List Nd) (k : Nat) (n : Nd) : stepB (ns.take k) n = (oneB n && (riseB ns k n && ((!(PathM.parB n.path) || hasB (ns.take k) (PathM.parV n.path) 53) && (!(decide (n.kind = 49)) || hasB (ns.take k) n.link 48)))) := rfl
theorem nslice_h (b o n c k : Nat) (hk : k ≤ c) (w : World) : (Instr.slice 42 (.slice (some ⟨b, o, none⟩) n c) none (some (.int .i64 (k : Int))) none).run Try.prog w = .ok (.slice (some ⟨b, o, none⟩) k c) w := by
  have he : Try.prog.elem 42 = 23 := by kernel_rfl
  have hs : (sizeOf 23).run Try.prog w = .ok 8 w := by
    have hi : (Try.prog.info? 23).map (·.size) = some 8 := by kernel_rfl
    cases hq : Try.prog.info? 23 with
    | none => simp [hq] at hi
    | some i =>
      have : i.size = 8 := by simpa [hq] using hi
      simp [sizeOf, typeInfo, hq, this]
  rw [run_slice_h (P := Try.prog) w 42 _ _ _ (by rw [he]; exact Try.underlying42) .i64 k (by omega) (by omega), he, hs]
  simp only [Result.andThen_ok, sliced]
  simp
  intro _
  rw [Addr.add_lit, Nat.add_zero]
theorem k53 : (53 : Int) = ((53 : UInt8).toNat : Int) := rfl
theorem k48 : (48 : Int) = ((48 : UInt8).toNat : Int) := rfl

end Go.Proofs.Ytieefnnfnimflaa.Tree
