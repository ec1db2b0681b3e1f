/-
  The document's block of a header: no statement is proved here.
-/
import Derived.Test.YtcgdeeinnfkgkaaGreatHeadRefE
import Derived.Test.YtcgdeeinnfkgkaaGreatHeadRefL
import Derived.Test.YtcgdeeinnfkgkaaGreatHeadRefN
import Derived.Test.YtcgdeeinnfkgkaaGreatHeadRefP
namespace Go.Proofs.YtcgdeeinnfkgkaaGreat.Head
open Go.RowKit Go.Proofs.YtcgdeeinnfkgkaaGreat.Base Go.Proofs.YtcgdeeinnfkgkaaGreat.NumM Go.Proofs.YtcgdeeinnfkgkaaGreat.Num

theorem rmay_any (h : Hd) (hsm : SmallH h) (w : World) :
    Calls Tryz.prog 53 #[hv h] w fun e w' => e = .returned (.bool (mayH h)) ∧ Stp w w' := by
  by_cases hx : h.name = [] ∨ okT h.name 100 = false ∨ okT h.link 100 = false ∨ okT h.pre 155 = false ∨ putOk h.mode 8 = false ∨ putOk h.uid 8 = false ∨ putOk h.gid 8 = false ∨ putOk h.size 12 = false ∨ putOk h.time 12 = false
  · rw [may_no hx]
    exact rmay_early h hsm w hx
  · simp only [not_or, Bool.not_eq_false] at hx
    obtain ⟨a0, a1, a2, a3, a4, a5, a6, a7, a8⟩ := hx
    exact rmay_late h hsm w a0 a1 a2 a3 a4 a5 a6 a7 a8

set_option linter.unusedSimpArgs false in
set_option maxHeartbeats 8000000 in
set_option maxRecDepth 100000 in
theorem rputH_no (h : Hd) (hs : SmallH h) (w : World) (hm : mayH h = false) :
    Calls Tryz.prog 34 #[hv h] w fun e w' => ∃ A cap, e = .returned (.tuple #[.slice A 0 cap, .bool false]) ∧ RdA w' A cap [] ∧ Stp w w' := by
  have h0 := Stp.refl w
  have Hm := Lib.hid hm
  have Hs := Lib.hid hs
  clear hm hs
  go_enter Tryz.func34, Tryz.ntmps34
  go_wp2_with (go_at_call 53; refine (rmay_any h Hs.out _).mono ?_; rintro e w' ⟨rfl, hs⟩; have H1 := Lib.hid (Stp.trans (Stp.alloc h0 _) hs); clear hs; rw [Hm.out])
  go_ret2
  exact ⟨none, 0, rfl, RdA.nil _, H1.out⟩

theorem rputH_s (h : Hd) (hs : SmallH h) (w : World) :
    Calls Tryz.prog 34 #[hv h] w fun e w' => ∃ A cap, e = .returned (.tuple #[.slice A (putB h).length cap, .bool (mayH h)]) ∧ RdA w' A cap (bs (putB h)) ∧ Stp w w' := by
  cases hm : mayH h
  · rw [show putB h = [] by unfold putB; rw [if_neg (by simp [hm])]]
    exact rputH_no h hs w hm
  · rw [putB_yes hm, blk_length hm hs]
    by_cases ht : h.ty = 77
    · exact rputH_m h hs (rmay_any h hs) w hm ht
    · exact rputH_n h hs (rmay_any h hs) w hm ht
end Go.Proofs.YtcgdeeinnfkgkaaGreat.Head
