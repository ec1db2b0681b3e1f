/-
  The document's answers for labels: May, Name: their contracts; no statement is proved here.
-/
import Derived.Test.YtokfhockdakhiaaDoorLabelM
import Derived.Test.YtokfhockdakhiaaDoorBase
namespace Go.Proofs.YtokfhockdakhiaaDoor.Label
open Go.RowKit Go.Proofs.YtokfhockdakhiaaDoor.Str Go.Proofs.YtokfhockdakhiaaDoor.Base Go.Proofs.YtokfhockdakhiaaDoor.Head Go.Proofs.YtokfhockdakhiaaDoor.LabelM
set_option linter.unusedVariables false

set_option maxRecDepth 100000 in
set_option maxHeartbeats 2000000 in
theorem rlmay_s (s : L) (y : Nat) (hy : s.length = y) (hs : y ≤ 9223372036854775807) (n : Int) (b : Bool) (hb : mayLb s n = b) (w : World) :
    Calls Tryd.prog 16 #[.string ⟨s.toArray⟩, .int .i64 n] w fun e w' => e = .returned (.bool b) ∧ w' = w := by
  have Hy := Lib.hid hy
  have Hb := Lib.hid hb
  have hlen : ∀ w : World, True := fun _ => trivial
  have hsz : (⟨s.toArray⟩ : ByteArray).size = y := by rw [← hy]; simp [ByteArray.size]
  clear hy hb hlen
  go_enter Tryd.func16, Tryd.ntmps16
  go_wp2_with fail
  go_loopw [5] (fun i wr => ∃ j : Nat, j ≤ y ∧ i = .int .i64 j ∧ wr = w ∧ Hid (∀ x ∈ s.take j, x ≠ 0)) (fun i _ => y - (intOf i).toNat)
  case atStart => exact ⟨0, by omega, rfl, rfl, Lib.hid (by simp)⟩
  case round =>
    obtain ⟨j, hj, rfl, rfl, Hk⟩ := hrel
    by_cases hlt : j < y
    · obtain ⟨c, hc⟩ : ∃ c, s[j]? = some c := ⟨_, List.getElem?_eq_getElem (by rw [Hy.out]; exact hlt)⟩
      have hix := idx_l s (j : Int) c (by omega) (by rw [Int.toNat_natCast]; exact hc)
      have Hc := Lib.hid hc
      clear hc
      by_cases h0 : c = 0
      · have g0 : ((c.toNat : Int) == 0) = true := by subst h0; rfl
        have e : b = false := by
          rw [← Hb.out, Bool.eq_false_iff]
          intro h
          exact (mayLb_iff.1 h).1 c (List.mem_of_getElem? Hc.out) h0
        subst e
        clear h0
        go_wp2_with fail
        go_ret
        exact ⟨rfl, rfl⟩
      · have g0 : ((c.toNat : Int) == 0) = false := by
          rw [beq_eq_false_iff_ne]
          intro h
          exact h0 (UInt8.toNat_inj.1 (by have e0 : (0 : UInt8).toNat = 0 := rfl; omega))
        have H0 := Lib.hid h0
        clear h0
        go_wp2_with fail
        go_roundw
        case rel =>
          refine ⟨j + 1, by omega, by go_num, by trivial, Lib.hid fun x hx => ?_⟩
          rw [List.take_add_one, Hc.out] at hx
          rcases List.mem_append.1 hx with h | h
          · exact Hk.out x h
          · simp at h
            rw [h]
            exact H0.out
        case measure => simp [intOf]; omega
    · obtain rfl : j = y := by omega
      have hall : s.all (fun x => x != 0) = true := by
        have h := Hk.out
        rw [List.take_of_length_le (by rw [Hy.out]; exact Nat.le_refl _)] at h
        rw [List.all_eq_true]
        exact fun x hx => by rw [bne_iff_ne]; exact h x hx
      have hb2 := Hb.out
      rw [mayLb, hall, Hy.out] at hb2
      obtain ⟨x1, g1⟩ : ∃ x, decide ((1 : Int) ≤ (j : Int)) = x := ⟨_, rfl⟩
      obtain ⟨x2, g2⟩ : ∃ x, decide ((j : Int) ≤ 88) = x := ⟨_, rfl⟩
      obtain ⟨x3, g3⟩ : ∃ x, decide (1 ≤ n) = x := ⟨_, rfl⟩
      obtain ⟨x4, g4⟩ : ∃ x, decide (n ≤ 999) = x := ⟨_, rfl⟩
      have e1 : decide (1 ≤ j) = x1 := by rw [← g1]; exact decide_eq_decide.2 (by omega)
      have e2 : decide (j ≤ 88) = x2 := by rw [← g2]; exact decide_eq_decide.2 (by omega)
      rw [e1, e2, g3, g4, Bool.true_and] at hb2
      subst hb2
      clear hall Hb e1 e2
      cases x1 <;> cases x2 <;> cases x3 <;> cases x4
      all_goals
        go_wp2_with fail
        go_ret
        exact ⟨rfl, rfl⟩

set_option maxRecDepth 100000 in
/-- One of the ten digits, cut out. -/
theorem cut_digit (m : Nat) (w : World) : (Instr.slice 9 (.string ⟨#[48, 49, 50, 51, 52, 53, 54, 55, 56, 57]⟩) (some (.int .i64 ((m % 10 : Nat) : Int))) (some (.int .i64 ((m % 10 : Nat) + 1 : Int))) none).run Tryd.prog w = .ok (.string ⟨[UInt8.ofNat (48 + m % 10)].toArray⟩) w := by
  obtain ⟨r, hr⟩ : ∃ r, m % 10 = r := ⟨_, rfl⟩
  have h : r < 10 := by omega
  rw [hr]
  match r, h with
  | 0, _ => rfl
  | 1, _ => rfl
  | 2, _ => rfl
  | 3, _ => rfl
  | 4, _ => rfl
  | 5, _ => rfl
  | 6, _ => rfl
  | 7, _ => rfl
  | 8, _ => rfl
  | 9, _ => rfl
  | r + 10, h => omega
end Go.Proofs.YtokfhockdakhiaaDoor.Label
