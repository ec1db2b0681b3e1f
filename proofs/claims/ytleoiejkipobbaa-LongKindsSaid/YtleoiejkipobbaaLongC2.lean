/-
  Contracts of package long: what a node needs, its header's names: no statement is proved here.
-/
import Derived.Test.YtleoiejkipobbaaLongC
import Derived.Deep.RegionHeld3
import Derived.Deep.QuietTactic
import Derived.BigQuiet
namespace Go.Proofs.Ytleoiejkipobbaa.Long
open Go.RowKit Go.Proofs.Ytleoiejkipobbaa.Str Go.Proofs.Ytleoiejkipobbaa.Base Go.Proofs.Ytleoiejkipobbaa.Node Go.Proofs.Ytleoiejkipobbaa.Head

theorem needL_is (n : Nd) : needL n = decide ((100 : Int) < (n.link.length : Int)) := by unfold needL; rw [Bool.eq_iff_iff]; simp only [decide_eq_true_eq]; omega

set_option maxRecDepth 100000 in
set_option maxHeartbeats 2000000 in
theorem needs_s (n : Nd) (hn : SmallN n) (w : World) :
    Calls Try.prog 25 #[nv n] w fun e w' => e = .returned (.tuple #[.bool (needN n), .bool (needL n)]) ∧ Stp w w' := by
  have h0 := Stp.refl w
  have Hp := Lib.hid hn.path
  have hl := hn.link
  have Hb0 := Lib.hid (Blk.new w 35 (ncells n))
  have H0 := Lib.hid (Stp.alloc h0 (.cells (ncells n) 35))
  obtain ⟨m, hm⟩ : ∃ m, PathM.mayB n.path = m := ⟨_, rfl⟩
  rw [needL_is]
  cases hsb : PathM.splB n.path
  · have hN : needN n = m := by unfold needN; rw [hsb, hm]; simp
    rw [hN]
    have Hsb := Lib.hid hsb
    have Hm := Lib.hid hm
    clear hsb hN hm hn
    go_enter Try.func25, Try.ntmps25
    go_wp2_with (go_at_call 38; refine (Path.split_s n.path _ Hp.out).mono ?_; rintro e w1 ⟨rfl, hs⟩; rw [Hsb.out]; have Hb1 := Lib.hid (Hb0.out.keep hs Hb0.out.lt); have H1 := Lib.hid (Stp.trans H0.out hs); clear hs)
    have key : ∀ W, Stp w1 W → W.cell? ⟨w.heap.size, 0, none⟩ = some (.string ⟨n.path.toArray⟩) ∧ W.cell? ⟨w.heap.size, 1, none⟩ = some (.string ⟨n.link.toArray⟩) := fun W hW => by
      obtain ⟨q0, q1, _⟩ := nd_cells (Hb1.out.keep hW Hb1.out.lt)
      exact ⟨q0, q1⟩
    have Key := Lib.hid key
    clear key
    go_region_held3 (fun W => W.cell? ⟨w.heap.size, 0, none⟩ = some (.string ⟨n.path.toArray⟩) ∧ W.cell? ⟨w.heap.size, 1, none⟩ = some (.string ⟨n.link.toArray⟩))
      (first | exact Key.out _ (stp_drew (Stp.refl _)) | exact Key.out _ H2.out)
      (first | (go_at_call 36; refine (Path.may_s n.path w1.drew Hp.out).mono ?_; rintro e w2 ⟨rfl, hs⟩; rw [Hm.out]; have H2 := Lib.hid (Stp.trans (stp_drew (Stp.refl w1)) hs); clear hs))
    go_wp2_with fail
    go_ret2
    exact ⟨rfl, Stp.trans H1.out H2.out⟩
  · have hN : needN n = false := by unfold needN; rw [hsb]; simp
    rw [hN]
    have Hsb := Lib.hid hsb
    clear hsb hN hm hn
    go_enter Try.func25, Try.ntmps25
    go_wp2_with (go_at_call 38; refine (Path.split_s n.path _ Hp.out).mono ?_; rintro e w1 ⟨rfl, hs⟩; rw [Hsb.out]; have Hb1 := Lib.hid (Hb0.out.keep hs Hb0.out.lt); have H1 := Lib.hid (Stp.trans H0.out hs); clear hs)
    obtain ⟨q0, q1, -⟩ := nd_cells Hb1.out
    go_quiet (fail)
    go_wp2_with fail
    go_ret2
    exact ⟨rfl, H1.out.drewN _⟩

theorem needs_v (n : Nd) (v : Value) (e : v = nv n) (hn : SmallN n) (w : World) :
    Calls Try.prog 25 #[v] w fun e w' => e = .returned (.tuple #[.bool (needN n), .bool (needL n)]) ∧ Stp w w' := by
  subst e
  exact needs_s n hn w
set_option maxRecDepth 100000 in
theorem field_s (s : L) (w : World) (hs : s.length ≤ 9223372036854775807) :
    Calls Try.prog 65 #[.string ⟨s.toArray⟩] w fun e w' => e = .returned (.string ⟨(s.take 100).toArray⟩) ∧ Stp w w' := by
  have h0 := Stp.refl w
  by_cases h : s.length ≤ 100
  · have hm : min ((s.length : Int)) 100 = ((s.length : Nat) : Int) := by omega
    have hc := cut_h s s.length (Nat.le_refl _)
    rw [List.take_of_length_le (Nat.le_refl _)] at hc
    rw [List.take_of_length_le h]
    go_enter Try.func65, Try.ntmps65
    go_wp2_with fail
    go_ret
    exact ⟨rfl, h0⟩
  · have hm : min ((s.length : Int)) 100 = 100 := by omega
    have hc : ∀ w, (Instr.slice 9 (.string ⟨s.toArray⟩) none (some (.int .i64 100)) none).run Try.prog w = .ok (.string ⟨(s.take 100).toArray⟩) w := cut_h s 100 (by omega)
    go_enter Try.func65, Try.ntmps65
    go_wp2_with fail
    go_ret
    exact ⟨rfl, h0⟩

set_option maxRecDepth 100000 in
set_option maxHeartbeats 2000000 in
theorem names_s (n : Nd) (hn : SmallN n) (w : World) :
    Calls Try.prog 27 #[nv n] w fun e w' => e = .returned (.tuple #[.string ⟨(nameV n).toArray⟩, .string ⟨(preV n).toArray⟩, .string ⟨(linkV n).toArray⟩]) ∧ Stp w w' := by
  have h0 := Stp.refl w
  have Hn := Lib.hid hn
  have Hb0 := Lib.hid (Blk.new w 35 (ncells n))
  have H0 := Lib.hid (Stp.alloc h0 (.cells (ncells n) 35))
  obtain ⟨q0, q1, q2, q3, q4, q5, q6, q7⟩ := nd_cells Hb0.out
  obtain ⟨nn, hnn⟩ : ∃ b, needN n = b := ⟨_, rfl⟩
  have hname : nameV n = if nn = true then n.path.take 100 else (PathM.splV n.path).2 := by rw [← hnn]; rfl
  rw [hname]
  have Hnn := Lib.hid hnn
  clear hnn hname hn
  go_enter Try.func27, Try.ntmps27
  go_wp2_with (first
    | (go_at_call 38; refine (Path.split_s n.path _ Hn.out.path).mono ?_; rintro e w1 ⟨rfl, hs⟩; have Hb1 := Lib.hid (Hb0.out.keep hs Hb0.out.lt); have H1 := Lib.hid (Stp.trans H0.out hs); clear hs q0 q1 q2 q3 q4 q5 q6 q7; obtain ⟨q0, q1, q2, q3, q4, q5, q6, q7⟩ := nd_cells Hb1.out)
    | (go_at_call 25; refine (needs_s n Hn.out _).mono ?_; rintro e w2 ⟨rfl, hs⟩; rw [Hnn.out]; have Hb2 := Lib.hid (Hb1.out.keep hs Hb1.out.lt); have H2 := Lib.hid (Stp.trans H1.out hs); clear hs q0 q1 q2 q3 q4 q5 q6 q7; obtain ⟨q0, q1, -⟩ := nd_cells Hb2.out; cases nn)
    | (go_at_call 65; (with_reducible refine (field_s n.path _ Hn.out.path).mono ?_); rintro e w3 ⟨rfl, hs⟩; have Hb3 := Lib.hid (Hb2.out.keep hs Hb2.out.lt); have H3 := Lib.hid (Stp.trans H2.out hs); clear hs q0 q1; obtain ⟨q0, q1, -⟩ := nd_cells Hb3.out)
    | (go_at_call 65; (with_reducible refine (field_s n.link _ Hn.out.link).mono ?_); rintro e w4 ⟨rfl, hs⟩; first | (have H4 := Lib.hid (Stp.trans H3.out hs)) | (have H4 := Lib.hid (Stp.trans H2.out hs))))
  · go_ret3
    exact ⟨rfl, H4.out⟩
  · go_ret3
    exact ⟨rfl, H4.out⟩
end Go.Proofs.Ytleoiejkipobbaa.Long
