/-
  The parser of package parse: what it panics with, and how that is recovered: must, the deferred closure, the table of what is done. No statement is proved here.
-/
import Derived.Test.YtieefnnfnimflaaGreatBase
import Derived.Recover
import Derived.Laws.EntriesVeiled
namespace Go.Proofs.YtieefnnfnimflaaGreat.Parse
open Go.RowKit Go.Proofs.YtieefnnfnimflaaGreat.Base

/-- What is panicked with. -/
abbrev pe (e : Int) : PanicEntry := { v := .iface 32 (.int .i64 e), recovered := false }

set_option maxRecDepth 100000 in
theorem must_s (b : Bool) (e0 : Int) (w : World) :
    Calls Tryz.prog 48 #[.bool b, .int .i64 e0] w fun e w' => (b = true ∧ e = .returned (.tuple #[]) ∨ b = false ∧ e = .panicked [pe e0]) ∧ w' = w := by
  cases b
  · go_enter Tryz.func48, Tryz.ntmps48
    go_wp2
    exact ⟨rfl, .inr ⟨trivial, rfl⟩, rfl⟩
  · go_enter Tryz.func48, Tryz.ntmps48
    go_wp2
    go_end0
    exact ⟨.inl ⟨trivial, rfl⟩, rfl⟩

theorem run_wrong (n : Int) (w : World) : (Instr.typeAssert (.iface 32 (.int .i64 n)) 20 32 false).run Tryz.prog w = .ok (.int .i64 n) w := by
  simp [Instr.typeAssert, run_underlying Tryz.underlying32, go_sem]
/-- The deferred closure, of a frame that panics: what was panicked with is laid. -/
theorem catch_panicking (p : Addr) (x n : Int) (older : List PanicEntry) (w : World) (hc : w.cell? p = some (.int .i64 x)) (hz : w.frozen? p = false) :
    CallsD Tryz.prog 47 #[.pointer (some p)] (.panicking (pe n :: older)) w fun e u' w' =>
      e = .returned (.tuple #[]) ∧ u' = .panicking ({ pe n with recovered := true } :: older) ∧ w' = w.setCell p (.int .i64 n) := by
  have hta := run_wrong n
  refine callsD_of_wpS Tryz.func47 rfl fun c₀ cs hu => ?_
  apply wpS_seq
  apply wpS_region
  simp [wpOpsS, go_sem, recoverD, hu, Tryz.ntmps47, Exit.thenS]
  apply wpS_seq
  apply wpS_region
  simp [wpOpsS, go_sem, Exit.thenS]
  refine wpS_cond (t := true) (by simp [Act.eval, Array.replicate]) ?_
  simp only [if_true]
  apply wpS_region
  simp [wpOpsS, go_sem, hta, hc, hz, bodyPostS, results, Tryz.results47]

/-- The deferred closure, of a frame that returns: nothing is done. -/
theorem catch_idle (p : Addr) (w : World) :
    CallsD Tryz.prog 47 #[.pointer (some p)] .returning w fun e u' w' => e = .returned (.tuple #[]) ∧ u' = .returning ∧ w' = w := by
  refine callsD_of_wpS Tryz.func47 rfl fun c₀ cs hu => ?_
  apply wpS_seq
  apply wpS_region
  simp [wpOpsS, go_sem, recoverD, hu, Tryz.ntmps47, Exit.thenS]
  apply wpS_seq
  apply wpS_region
  simp [wpOpsS, go_sem, Exit.thenS]
  refine wpS_cond (t := false) (by simp [Act.eval, Array.replicate]) ?_
  simp only [Bool.false_eq_true, if_false]
  refine wpS_of_wp (wp_skip ?_)
  cases c₀
  simp_all [bodyPostS, results, Tryz.results47]

/-- The table of what is done: method values of the parser at g. -/
abbrev meths (g : Nat) : Array Value := #[.func (.func 62) #[.pointer (some ⟨g, 0, none⟩)] #[], .func (.func 63) #[.pointer (some ⟨g, 0, none⟩)] #[], .func (.func 64) #[.pointer (some ⟨g, 0, none⟩)] #[],
  .func (.func 65) #[.pointer (some ⟨g, 0, none⟩)] #[], .func (.func 66) #[.pointer (some ⟨g, 0, none⟩)] #[], .func (.func 67) #[.pointer (some ⟨g, 0, none⟩)] #[]]
set_option maxRecDepth 100000 in
theorem phases_s (g : Nat) (w : World) : Calls Tryz.prog 49 #[.pointer (some ⟨g, 0, none⟩)] w fun e w' => e = .returned (.agg (meths g)) ∧ Stp w w' := by
  have hmf : ∀ (fn : Fn) (first cap : Array Value) (w : World), (Instr.makeFunc fn first cap).run Tryz.prog w = .ok (.func fn first cap) w := fun _ _ _ _ => rfl
  go_enter Tryz.func49, Tryz.ntmps49
  go_wp2
  refine bodyPost_ret (v := .agg (meths g)) (by simp [results, Tryz.results49, go_sem]) rfl ⟨rfl, Stp.alloc (Stp.refl w) _⟩
end Go.Proofs.YtieefnnfnimflaaGreat.Parse
