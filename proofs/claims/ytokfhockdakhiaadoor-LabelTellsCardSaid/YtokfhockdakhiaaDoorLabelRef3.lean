/-
  The document's answers for labels: Put: its contract; no statement is proved here.
-/
import Derived.Test.YtokfhockdakhiaaDoorLabelRef2
import Derived.Test.YtokfhockdakhiaaDoorLabelM2
import Derived.Test.YtokfhockdakhiaaDoorHeadRef6
import Derived.Test.YtokfhockdakhiaaDoorHeadHlp
namespace Go.Proofs.YtokfhockdakhiaaDoor.Label
open Go.RowKit Go.Proofs.YtokfhockdakhiaaDoor.Str Go.Proofs.YtokfhockdakhiaaDoor.Base Go.Proofs.YtokfhockdakhiaaDoor.Head Go.Proofs.YtokfhockdakhiaaDoor.LabelM
set_option linter.unusedVariables false

set_option maxRecDepth 100000 in
set_option maxHeartbeats 2000000 in
theorem rlput_s (s : L) (y : Nat) (hy : s.length = y) (hs : y ≤ 9223372036854775807) (n : Int) (x : L) (z : Nat) (b : Bool) (hv : putL s n = (x, b)) (hz : x.length = z) (w : World) :
    Calls Tryd.prog 13 #[.string ⟨s.toArray⟩, .int .i64 n] w fun e w' => ∃ A c, e = .returned (.tuple #[.slice A z c, .bool b]) ∧ RdA w' A c (bs x) ∧ Stp w w' := by
  by_cases hm : mayLb s n = true
  · obtain ⟨h1, h2⟩ := name_may hm
    have hb := blk_length h1 h2
    have hp := putB_yes h1
    rw [putL, if_pos hm] at hv
    rw [Prod.mk.injEq] at hv
    obtain ⟨hv1, hv2⟩ := hv
    subst hv1 hv2
    obtain rfl : z = 512 := by rw [← hz, hb]
    have hnb : nameB s n = (nameV s n.toNat, true) := by rw [nameB, if_pos hm]
    obtain ⟨u, hu⟩ : ∃ u, nameV s n.toNat = u := ⟨_, rfl⟩
    rw [hu] at h1 h2 hb hp hnb ⊢
    have C := Lib.hid (rputH_s (headV u) h2 w)
    rw [hp, h1, hb] at C
    have Hnb := Lib.hid hnb
    have Hy := Lib.hid hy
    clear hm hy hz hnb hp hb hu h1 h2
    go_enter Tryd.func13, Tryd.ntmps13
    go_wp2_with (first
      | (go_at_call 11; refine (rlname_s s y Hy.out hs n u true Hnb.out _).mono ?_; rintro e w1 ⟨rfl, rfl⟩)
      | (go_at_call 21; refine C.out.mono ?_; rintro e w2 ⟨A, c, rfl, hr, hst⟩; have HR := Lib.hid hr; have HS := Lib.hid hst; clear hr hst))
    go_ret2
    exact ⟨A, c, rfl, HR.out, HS.out⟩
  · have hm2 : mayLb s n = false := by simpa using hm
    rw [putL, if_neg hm] at hv
    cases hv
    subst hz
    have Hnb : Hid (nameB s n = ([], false)) := Lib.hid (by rw [nameB, if_neg hm])
    have Hy := Lib.hid hy
    clear hm hm2 hy
    go_enter Tryd.func13, Tryd.ntmps13
    go_wp2_with (go_at_call 11; refine (rlname_s s y Hy.out hs n [] false Hnb.out _).mono ?_; rintro e w1 ⟨rfl, rfl⟩)
    go_ret2
    exact ⟨none, 0, rfl, RdA.nil _, Stp.refl _⟩
end Go.Proofs.YtokfhockdakhiaaDoor.Label
