/-
  The same contracts of package path in one form (the world goes on, nothing that was there is written), and the chapter's examples (awake): no statement is proved here.
-/
import Derived.Test.YtkhkjohkgeionaaPathC
namespace Go.Proofs.Ytkhkjohkgeionaa.Path
open Go.RowKit Go.Shelf Go.Proofs.Ytkhkjohkgeionaa.Base Go.Proofs.Ytkhkjohkgeionaa.PathM

/-- Its parts, or none. -/
def partV (p : L) : List L := if mayB p = true then pcs p else []
theorem partV_yes {p : L} (h : mayB p = true) : partV p = pcs p := by simp [partV, h]
theorem partV_no {p : L} (h : mayB p = false) : partV p = [] := by simp [partV, h]
theorem partV_len (p : L) : (partV p).length ≤ 301 := by
  unfold partV
  split
  · rename_i h
    have h1 := pcs_length_le p
    have h2 := okSize h
    omega
  · simp

section
variable (p q : L) (w : World) (hp : p.length ≤ 9223372036854775807) (hq : q.length ≤ 9223372036854775807)
include hp
theorem may_s : Calls Try.prog 20 #[.string ⟨p.toArray⟩] w fun e w' => e = .returned (.bool (mayB p)) ∧ Stp w w' := may_any p w hp
theorem parent_s : Calls Try.prog 11 #[.string ⟨p.toArray⟩] w fun e w' => e = .returned (.tuple #[.string ⟨(parV p).toArray⟩, .bool (parB p)]) ∧ Stp w w' := parent_any p w hp
theorem split_s : Calls Try.prog 13 #[.string ⟨p.toArray⟩] w fun e w' => e = .returned (.tuple #[.string ⟨(splV p).1.toArray⟩, .string ⟨(splV p).2.toArray⟩, .bool (splB p)]) ∧ Stp w w' := split_any p w hp
theorem parts_s : Calls Try.prog 16 #[.string ⟨p.toArray⟩] w fun e w' => ∃ A cap, e = .returned (.slice A (partV p).length cap) ∧ RdA w' A cap (ss (partV p)) ∧ Stp w w' := by
  cases h : mayB p
  · refine (parts_no p w hp h).mono ?_
    rintro e w' ⟨rfl, hb⟩
    rw [partV_no h]
    exact ⟨none, 0, rfl, Rd.nil _ _, hb⟩
  · refine (parts_yes p w h).mono ?_
    rintro e w' ⟨v, rfl, hr, hb⟩
    obtain ⟨A, cap, rfl, hA⟩ := RdA.of hr
    rw [partV_yes h]
    exact ⟨A, cap, by rw [ss_length], hA, hb⟩
include hq
theorem below_s : Calls Try.prog 21 #[.string ⟨p.toArray⟩, .string ⟨q.toArray⟩] w fun e w' => e = .returned (.bool (belowB p q)) ∧ Stp w w' := below_any p q w hp hq
end
theorem join_s (p q : L) (w : World) (h : p.length + q.length + 1 ≤ 9223372036854775807) : Calls Try.prog 22 #[.string ⟨p.toArray⟩, .string ⟨q.toArray⟩] w fun e w' => e = .returned (.string ⟨(joinV p q).toArray⟩) ∧ Stp w w' :=
  (join_any p q w h).mono fun _ _ ⟨h1, h2⟩ => ⟨h1, by rw [← h2]; exact Stp.refl _⟩

set_option maxRecDepth 100000 in
set_option maxHeartbeats 2000000 in
theorem awake_s (w : World) : Calls Try.prog 10 #[] w fun e w' => e = .returned (.bool true) ∧ Stp w w' := by
  have h0 := Stp.refl w
  have m1 : mayB [97] = true := by decide
  have m2 : mayB [97, 47, 47, 98] = false := by decide
  have m3 : mayB [47, 97] = false := by decide
  have m4 : mayB [97, 47, 46, 46, 47, 98] = false := by decide
  have m5 : partV [97, 47, 98, 47, 99] = [[97], [98], [99]] := by decide
  have m6 : parV [97, 47, 98, 47, 99] = [97, 47, 98] := by decide
  have m7 : parB [97, 47, 98, 47, 99] = true := by decide
  have m8 : splV [97, 47, 98] = ([], [97, 47, 98]) := by decide
  have m9 : splB [97, 47, 98] = true := by decide
  have m10 : belowB [97, 47, 98] [97] = true := by decide
  have m11 : joinV [97] [98] = [97, 47, 98] := by decide
  go_enter Try.func10, Try.ntmps10
  go_wp2_with fail
  refine (parts_s _ _ (by decide)).mono ?_
  rintro e w1 ⟨A, cap, rfl, hr, hb⟩
  rw [m5] at hr ⊢
  have h1 := Stp.trans h0 hb
  clear hb
  go_wp2_with fail
  refine (parent_s _ _ (by decide)).mono ?_
  rintro e w2 ⟨rfl, hb⟩
  rw [m6, m7]
  replace hr := hr.keep hb
  have h2 := Stp.trans h1 hb
  clear hb h1
  go_wp2_with fail
  refine (split_s _ _ (by decide)).mono ?_
  rintro e w3 ⟨rfl, hb⟩
  rw [m8, m9]
  replace hr := hr.keep hb
  have h3 := Stp.trans h2 hb
  obtain ⟨b, o, rfl, hrd⟩ := hr.at_ (j := 2) (by decide)
  have hc2 : w3.cell? ⟨b, o + 2, none⟩ = some (.string ⟨#[99]⟩) := hrd 2 _ rfl
  clear hr hrd hb h2
  go_wp2_with (first
    | (go_at_call 20; refine (may_s _ _ (by decide)).mono ?_; rintro e w' ⟨rfl, hb⟩; replace h3 := Stp.trans h3 hb; clear hb hc2; rw [m1])
    | (go_at_call 20; refine (may_s _ _ (by decide)).mono ?_; rintro e w' ⟨rfl, hb⟩; replace h3 := Stp.trans h3 hb; clear hb; rw [m2])
    | (go_at_call 20; refine (may_s _ _ (by decide)).mono ?_; rintro e w' ⟨rfl, hb⟩; replace h3 := Stp.trans h3 hb; clear hb; rw [m3])
    | (go_at_call 20; refine (may_s _ _ (by decide)).mono ?_; rintro e w' ⟨rfl, hb⟩; replace h3 := Stp.trans h3 hb; clear hb; rw [m4])
    | (go_at_call 21; refine (below_s _ _ _ (by decide) (by decide)).mono ?_; rintro e w' ⟨rfl, hb⟩; replace h3 := Stp.trans h3 hb; clear hb; rw [m10])
    | (go_at_call 22; refine (join_s _ _ _ (by decide)).mono ?_; rintro e w' ⟨rfl, hb⟩; replace h3 := Stp.trans h3 hb; clear hb; rw [m11]))
  go_ret
  exact ⟨rfl, h3⟩
end Go.Proofs.Ytkhkjohkgeionaa.Path
