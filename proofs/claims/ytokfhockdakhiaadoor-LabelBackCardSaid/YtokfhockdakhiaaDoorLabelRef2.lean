/-
  The document's answers for labels: Name: its contract; no statement is proved here.
-/
import Derived.Test.YtokfhockdakhiaaDoorLabelRef
namespace Go.Proofs.YtokfhockdakhiaaDoor.Label
open Go.RowKit Go.Proofs.YtokfhockdakhiaaDoor.Str Go.Proofs.YtokfhockdakhiaaDoor.Base Go.Proofs.YtokfhockdakhiaaDoor.Head Go.Proofs.YtokfhockdakhiaaDoor.LabelM
set_option linter.unusedVariables false

theorem ext_digit (m : Nat) (acc : L) : (⟨#[48, 49, 50, 51, 52, 53, 54, 55, 56, 57]⟩ : ByteArray).extract (m % 10) (m % 10 + 1) ++ ⟨acc.toArray⟩ = ⟨(UInt8.ofNat (48 + m % 10) :: acc).toArray⟩ := by
  have e : (⟨#[48, 49, 50, 51, 52, 53, 54, 55, 56, 57]⟩ : ByteArray).extract (m % 10) (m % 10 + 1) = ⟨#[UInt8.ofNat (48 + m % 10)]⟩ := by
    obtain ⟨r, hr⟩ : ∃ r, m % 10 = r := ⟨_, rfl⟩
    have h : r < 10 := by omega
    rw [hr]
    match r, h with
    | 0, _ => rfl
    | 1, _ => rfl
    | 2, _ => rfl
    | 3, _ => rfl
    | 4, _ => rfl
    | 5, _ => rfl
    | 6, _ => rfl
    | 7, _ => rfl
    | 8, _ => rfl
    | 9, _ => rfl
    | r + 10, h => omega
  rw [e]
  exact ba_eq (by rw [ByteArray.data_append]; simp)
set_option maxRecDepth 100000 in
set_option maxHeartbeats 2000000 in
theorem rlname_s (s : L) (y : Nat) (hy : s.length = y) (hs : y ≤ 9223372036854775807) (n : Int) (x : L) (b : Bool) (hv : nameB s n = (x, b)) (w : World) :
    Calls Tryd.prog 11 #[.string ⟨s.toArray⟩, .int .i64 n] w fun e w' => e = .returned (.tuple #[.string ⟨x.toArray⟩, .bool b]) ∧ w' = w := by
  by_cases hm : mayLb s n = true
  · obtain ⟨h1, h2, h3, h4, h5⟩ := mayLb_iff.1 hm
    obtain ⟨k, hk⟩ : ∃ k : Nat, n = (k : Int) := ⟨n.toNat, by omega⟩
    subst hk
    rw [nameB, if_pos hm, Int.toNat_natCast] at hv
    cases hv
    have Hm := Lib.hid hm
    have Hy := Lib.hid hy
    have hy88 : y ≤ 88 := by omega
    have hk9 : k ≤ 999 := by omega
    clear hm hy h1 h2 h3 h4 h5
    go_enter Tryd.func11, Tryd.ntmps11
    go_wp2_with (go_at_call 16; refine (rlmay_s s y Hy.out hs _ true Hm.out _).mono ?_; rintro e w1 ⟨rfl, rfl⟩)
    go_loopw [1, 7] (fun nv dv wr => ∃ (m : Nat) (acc : L), m ≤ 999 ∧ nv = .int .i64 (m : Int) ∧ dv = .string ⟨acc.toArray⟩ ∧ wr = w1 ∧ Hid (dig m ++ acc = dig k)) (fun nv _ _ => (intOf nv).toNat)
    case atStart => exact ⟨k, [], hk9, rfl, rfl, rfl, Lib.hid (by simp)⟩
    case round =>
      obtain ⟨m, acc, hm9, rfl, rfl, rfl, Hd⟩ := hrel
      by_cases h0 : m = 0
      · subst h0
        have hacc : acc = dig k := by
          have h := Hd.out
          rw [dig_zero, List.nil_append] at h
          exact h
        subst hacc
        obtain ⟨sv, hsv⟩ : ∃ l, s ++ volS = l := ⟨_, rfl⟩
        have hn : nameV s k = sv ++ dig k := by rw [nameV, hsv]
        have hl9 : (dig k).length ≤ 3 := by
          have h := mayLb_iff.1 Hm.out
          rw [dig_len (by omega) hk9]
          split
          · omega
          · split <;> omega
        have hsl : sv.length = y + 8 := by rw [← hsv, List.length_append, Hy.out, volS_len]
        have a1 : ∀ w : World, (Op.stringOp .add ⟨s.toArray⟩ ⟨#[32, 86, 111, 108, 117, 109, 101, 32]⟩).run Tryd.prog w = .ok (.string ⟨sv.toArray⟩) w := fun w => by
          rw [← hsv]
          exact add_ll s volS (by rw [Hy.out, volS_len]; omega) w
        have a2 := add_ll sv (dig k) (by omega)
        clear hsv
        go_wp2_with fail
        go_ret2
        refine ⟨?_, rfl⟩
        rw [hn]
        rfl
      · have g1 : decide ((0 : Int) < (m : Int)) = true := decide_eq_true (by omega)
        have hmp : 0 < m := by omega
        have hacc : acc.length ≤ 3 := by
          have h := mayLb_iff.1 Hm.out
          have h2 := congrArg List.length Hd.out
          rw [List.length_append, dig_len (n := k) (by omega) hk9] at h2
          split at h2
          · omega
          · split at h2 <;> omega
        have hov : ¬ 9223372036854775807 < min (m % 10 + 1) 10 - m % 10 + acc.length := by omega
        clear g1
        go_wp2_with fail
        refine ⟨⟨m / 10, UInt8.ofNat (48 + m % 10) :: acc, by omega, congrArg (Value.int .i64) (by omega), congrArg Value.string (ext_digit m acc), by trivial, Lib.hid ?_⟩, ?_⟩
        · rw [← Hd.out, dig_more h0, List.append_assoc]
          rfl
        · simp [intOf]
          omega
  · have hm2 : mayLb s n = false := by simpa using hm
    rw [nameB, if_neg hm] at hv
    cases hv
    have Hm := Lib.hid hm2
    have Hy := Lib.hid hy
    clear hm hm2 hy
    go_enter Tryd.func11, Tryd.ntmps11
    go_wp2_with (go_at_call 16; refine (rlmay_s s y Hy.out hs n false Hm.out _).mono ?_; rintro e w1 ⟨rfl, rfl⟩)
    go_ret2
    exact ⟨rfl, rfl⟩
end Go.Proofs.YtokfhockdakhiaaDoor.Label
