/-
  The document's answers for labels: May, Name: their contracts; no statement is proved here.
  The document's answers for labels: Name: its contract; no statement is proved here.
  The document's answers for labels: Put: its contract; no statement is proved here.
-/
import Derived.Test.YtopihahjjcpnpaaGreatDoorLabelM
import Derived.Test.YtopihahjjcpnpaaGreatDoorBase
import Derived.Test.YtopihahjjcpnpaaGreatDoorHeadRef6
import Derived.Test.YtopihahjjcpnpaaGreatDoorHeadHlp
namespace Go.Proofs.YtopihahjjcpnpaaGreatDoor.Label
open Go.RowKit Go.Proofs.YtopihahjjcpnpaaGreatDoor.Str Go.Proofs.YtopihahjjcpnpaaGreatDoor.Base Go.Proofs.YtopihahjjcpnpaaGreatDoor.Head Go.Proofs.YtopihahjjcpnpaaGreatDoor.LabelM
set_option linter.unusedVariables false

set_option maxRecDepth 100000 in
set_option maxHeartbeats 2000000 in
theorem rlmay_s (s : L) (y : Nat) (hy : s.length = y) (hs : y ≤ 9223372036854775807) (n : Int) (b : Bool) (hb : mayLb s n = b) (w : World) :
    Calls Tryz.prog 42 #[.string ⟨s.toArray⟩, .int .i64 n] w fun e w' => e = .returned (.bool b) ∧ w' = w := by
  have Hy := Lib.hid hy
  have Hb := Lib.hid hb
  have hlen : ∀ w : World, True := fun _ => trivial
  have hsz : (⟨s.toArray⟩ : ByteArray).size = y := by rw [← hy]; simp [ByteArray.size]
  clear hy hb hlen
  go_enter Tryz.func42, Tryz.ntmps42
  go_wp2_with fail
  go_loopw [5] (fun i wr => ∃ j : Nat, j ≤ y ∧ i = .int .i64 j ∧ wr = w ∧ Hid (∀ x ∈ s.take j, x ≠ 0)) (fun i _ => y - (intOf i).toNat)
  case atStart => exact ⟨0, by omega, rfl, rfl, Lib.hid (by simp)⟩
  case round =>
    obtain ⟨j, hj, rfl, rfl, Hk⟩ := hrel
    by_cases hlt : j < y
    · obtain ⟨c, hc⟩ : ∃ c, s[j]? = some c := ⟨_, List.getElem?_eq_getElem (by rw [Hy.out]; exact hlt)⟩
      have hix := idx_l s (j : Int) c (by omega) (by rw [Int.toNat_natCast]; exact hc)
      have Hc := Lib.hid hc
      clear hc
      by_cases h0 : c = 0
      · have g0 : ((c.toNat : Int) == 0) = true := by subst h0; rfl
        have e : b = false := by
          rw [← Hb.out, Bool.eq_false_iff]
          intro h
          exact (mayLb_iff.1 h).1 c (List.mem_of_getElem? Hc.out) h0
        subst e
        clear h0
        go_wp2_with fail
        go_ret
        exact ⟨rfl, rfl⟩
      · have g0 : ((c.toNat : Int) == 0) = false := by
          rw [beq_eq_false_iff_ne]
          intro h
          exact h0 (UInt8.toNat_inj.1 (by have e0 : (0 : UInt8).toNat = 0 := rfl; omega))
        have H0 := Lib.hid h0
        clear h0
        go_wp2_with fail
        go_roundw
        case rel =>
          refine ⟨j + 1, by omega, by go_num, by trivial, Lib.hid fun x hx => ?_⟩
          rw [List.take_add_one, Hc.out] at hx
          rcases List.mem_append.1 hx with h | h
          · exact Hk.out x h
          · simp at h
            rw [h]
            exact H0.out
        case measure => simp [intOf]; omega
    · obtain rfl : j = y := by omega
      have hall : s.all (fun x => x != 0) = true := by
        have h := Hk.out
        rw [List.take_of_length_le (by rw [Hy.out]; exact Nat.le_refl _)] at h
        rw [List.all_eq_true]
        exact fun x hx => by rw [bne_iff_ne]; exact h x hx
      have hb2 := Hb.out
      rw [mayLb, hall, Hy.out] at hb2
      obtain ⟨x1, g1⟩ : ∃ x, decide ((1 : Int) ≤ (j : Int)) = x := ⟨_, rfl⟩
      obtain ⟨x2, g2⟩ : ∃ x, decide ((j : Int) ≤ 88) = x := ⟨_, rfl⟩
      obtain ⟨x3, g3⟩ : ∃ x, decide (1 ≤ n) = x := ⟨_, rfl⟩
      obtain ⟨x4, g4⟩ : ∃ x, decide (n ≤ 999) = x := ⟨_, rfl⟩
      have e1 : decide (1 ≤ j) = x1 := by rw [← g1]; exact decide_eq_decide.2 (by omega)
      have e2 : decide (j ≤ 88) = x2 := by rw [← g2]; exact decide_eq_decide.2 (by omega)
      rw [e1, e2, g3, g4, Bool.true_and] at hb2
      subst hb2
      clear hall Hb e1 e2
      cases x1 <;> cases x2 <;> cases x3 <;> cases x4
      all_goals
        go_wp2_with fail
        go_ret
        exact ⟨rfl, rfl⟩

set_option maxRecDepth 100000 in
/-- One of the ten digits, cut out. -/
theorem cut_digit (m : Nat) (w : World) : (Instr.slice 9 (.string ⟨#[48, 49, 50, 51, 52, 53, 54, 55, 56, 57]⟩) (some (.int .i64 ((m % 10 : Nat) : Int))) (some (.int .i64 ((m % 10 : Nat) + 1 : Int))) none).run Tryz.prog w = .ok (.string ⟨[UInt8.ofNat (48 + m % 10)].toArray⟩) w := by
  obtain ⟨r, hr⟩ : ∃ r, m % 10 = r := ⟨_, rfl⟩
  have h : r < 10 := by omega
  rw [hr]
  match r, h with
  | 0, _ => rfl
  | 1, _ => rfl
  | 2, _ => rfl
  | 3, _ => rfl
  | 4, _ => rfl
  | 5, _ => rfl
  | 6, _ => rfl
  | 7, _ => rfl
  | 8, _ => rfl
  | 9, _ => rfl
  | r + 10, h => omega
end Go.Proofs.YtopihahjjcpnpaaGreatDoor.Label

namespace Go.Proofs.YtopihahjjcpnpaaGreatDoor.Label
open Go.RowKit Go.Proofs.YtopihahjjcpnpaaGreatDoor.Str Go.Proofs.YtopihahjjcpnpaaGreatDoor.Base Go.Proofs.YtopihahjjcpnpaaGreatDoor.Head Go.Proofs.YtopihahjjcpnpaaGreatDoor.LabelM
set_option linter.unusedVariables false

theorem ext_digit (m : Nat) (acc : L) : (⟨#[48, 49, 50, 51, 52, 53, 54, 55, 56, 57]⟩ : ByteArray).extract (m % 10) (m % 10 + 1) ++ ⟨acc.toArray⟩ = ⟨(UInt8.ofNat (48 + m % 10) :: acc).toArray⟩ := by
  have e : (⟨#[48, 49, 50, 51, 52, 53, 54, 55, 56, 57]⟩ : ByteArray).extract (m % 10) (m % 10 + 1) = ⟨#[UInt8.ofNat (48 + m % 10)]⟩ := by
    obtain ⟨r, hr⟩ : ∃ r, m % 10 = r := ⟨_, rfl⟩
    have h : r < 10 := by omega
    rw [hr]
    match r, h with
    | 0, _ => rfl
    | 1, _ => rfl
    | 2, _ => rfl
    | 3, _ => rfl
    | 4, _ => rfl
    | 5, _ => rfl
    | 6, _ => rfl
    | 7, _ => rfl
    | 8, _ => rfl
    | 9, _ => rfl
    | r + 10, h => omega
  rw [e]
  exact ba_eq (by rw [ByteArray.data_append]; simp)
set_option maxRecDepth 100000 in
set_option maxHeartbeats 2000000 in
theorem rlname_s (s : L) (y : Nat) (hy : s.length = y) (hs : y ≤ 9223372036854775807) (n : Int) (x : L) (b : Bool) (hv : nameB s n = (x, b)) (w : World) :
    Calls Tryz.prog 72 #[.string ⟨s.toArray⟩, .int .i64 n] w fun e w' => e = .returned (.tuple #[.string ⟨x.toArray⟩, .bool b]) ∧ w' = w := by
  by_cases hm : mayLb s n = true
  · obtain ⟨h1, h2, h3, h4, h5⟩ := mayLb_iff.1 hm
    obtain ⟨k, hk⟩ : ∃ k : Nat, n = (k : Int) := ⟨n.toNat, by omega⟩
    subst hk
    rw [nameB, if_pos hm, Int.toNat_natCast] at hv
    cases hv
    have Hm := Lib.hid hm
    have Hy := Lib.hid hy
    have hy88 : y ≤ 88 := by omega
    have hk9 : k ≤ 999 := by omega
    clear hm hy h1 h2 h3 h4 h5
    go_enter Tryz.func72, Tryz.ntmps72
    go_wp2_with (go_at_call 42; refine (rlmay_s s y Hy.out hs _ true Hm.out _).mono ?_; rintro e w1 ⟨rfl, rfl⟩)
    go_loopw [1, 7] (fun nv dv wr => ∃ (m : Nat) (acc : L), m ≤ 999 ∧ nv = .int .i64 (m : Int) ∧ dv = .string ⟨acc.toArray⟩ ∧ wr = w1 ∧ Hid (dig m ++ acc = dig k)) (fun nv _ _ => (intOf nv).toNat)
    case atStart => exact ⟨k, [], hk9, rfl, rfl, rfl, Lib.hid (by simp)⟩
    case round =>
      obtain ⟨m, acc, hm9, rfl, rfl, rfl, Hd⟩ := hrel
      by_cases h0 : m = 0
      · subst h0
        have hacc : acc = dig k := by
          have h := Hd.out
          rw [dig_zero, List.nil_append] at h
          exact h
        subst hacc
        obtain ⟨sv, hsv⟩ : ∃ l, s ++ volS = l := ⟨_, rfl⟩
        have hn : nameV s k = sv ++ dig k := by rw [nameV, hsv]
        have hl9 : (dig k).length ≤ 3 := by
          have h := mayLb_iff.1 Hm.out
          rw [dig_len (by omega) hk9]
          split
          · omega
          · split <;> omega
        have hsl : sv.length = y + 8 := by rw [← hsv, List.length_append, Hy.out, volS_len]
        have a1 : ∀ w : World, (Op.stringOp .add ⟨s.toArray⟩ ⟨#[32, 86, 111, 108, 117, 109, 101, 32]⟩).run Tryz.prog w = .ok (.string ⟨sv.toArray⟩) w := fun w => by
          rw [← hsv]
          exact add_ll s volS (by rw [Hy.out, volS_len]; omega) w
        have a2 := add_ll sv (dig k) (by omega)
        clear hsv
        go_wp2_with fail
        go_ret2
        refine ⟨?_, rfl⟩
        rw [hn]
        rfl
      · have g1 : decide ((0 : Int) < (m : Int)) = true := decide_eq_true (by omega)
        have hmp : 0 < m := by omega
        have hacc : acc.length ≤ 3 := by
          have h := mayLb_iff.1 Hm.out
          have h2 := congrArg List.length Hd.out
          rw [List.length_append, dig_len (n := k) (by omega) hk9] at h2
          split at h2
          · omega
          · split at h2 <;> omega
        have hov : ¬ 9223372036854775807 < min (m % 10 + 1) 10 - m % 10 + acc.length := by omega
        clear g1
        go_wp2_with fail
        refine ⟨⟨m / 10, UInt8.ofNat (48 + m % 10) :: acc, by omega, congrArg (Value.int .i64) (by omega), congrArg Value.string (ext_digit m acc), by trivial, Lib.hid ?_⟩, ?_⟩
        · rw [← Hd.out, dig_more h0, List.append_assoc]
          rfl
        · simp [intOf]
          omega
  · have hm2 : mayLb s n = false := by simpa using hm
    rw [nameB, if_neg hm] at hv
    cases hv
    have Hm := Lib.hid hm2
    have Hy := Lib.hid hy
    clear hm hm2 hy
    go_enter Tryz.func72, Tryz.ntmps72
    go_wp2_with (go_at_call 42; refine (rlmay_s s y Hy.out hs n false Hm.out _).mono ?_; rintro e w1 ⟨rfl, rfl⟩)
    go_ret2
    exact ⟨rfl, rfl⟩
end Go.Proofs.YtopihahjjcpnpaaGreatDoor.Label

namespace Go.Proofs.YtopihahjjcpnpaaGreatDoor.Label
open Go.RowKit Go.Proofs.YtopihahjjcpnpaaGreatDoor.Str Go.Proofs.YtopihahjjcpnpaaGreatDoor.Base Go.Proofs.YtopihahjjcpnpaaGreatDoor.Head Go.Proofs.YtopihahjjcpnpaaGreatDoor.LabelM
set_option linter.unusedVariables false

set_option maxRecDepth 100000 in
set_option maxHeartbeats 2000000 in
theorem rlput_s (s : L) (y : Nat) (hy : s.length = y) (hs : y ≤ 9223372036854775807) (n : Int) (x : L) (z : Nat) (b : Bool) (hv : putL s n = (x, b)) (hz : x.length = z) (w : World) :
    Calls Tryz.prog 39 #[.string ⟨s.toArray⟩, .int .i64 n] w fun e w' => ∃ A c, e = .returned (.tuple #[.slice A z c, .bool b]) ∧ RdA w' A c (bs x) ∧ Stp w w' := by
  by_cases hm : mayLb s n = true
  · obtain ⟨h1, h2⟩ := name_may hm
    have hb := blk_length h1 h2
    have hp := putB_yes h1
    rw [putL, if_pos hm] at hv
    rw [Prod.mk.injEq] at hv
    obtain ⟨hv1, hv2⟩ := hv
    subst hv1 hv2
    obtain rfl : z = 512 := by rw [← hz, hb]
    have hnb : nameB s n = (nameV s n.toNat, true) := by rw [nameB, if_pos hm]
    obtain ⟨u, hu⟩ : ∃ u, nameV s n.toNat = u := ⟨_, rfl⟩
    rw [hu] at h1 h2 hb hp hnb ⊢
    have C := Lib.hid (rputH_s (headV u) h2 w)
    rw [hp, h1, hb] at C
    have Hnb := Lib.hid hnb
    have Hy := Lib.hid hy
    clear hm hy hz hnb hp hb hu h1 h2
    go_enter Tryz.func39, Tryz.ntmps39
    go_wp2_with (first
      | (go_at_call 72; refine (rlname_s s y Hy.out hs n u true Hnb.out _).mono ?_; rintro e w1 ⟨rfl, rfl⟩)
      | (go_at_call 73; refine C.out.mono ?_; rintro e w2 ⟨A, c, rfl, hr, hst⟩; have HR := Lib.hid hr; have HS := Lib.hid hst; clear hr hst))
    go_ret2
    exact ⟨A, c, rfl, HR.out, HS.out⟩
  · have hm2 : mayLb s n = false := by simpa using hm
    rw [putL, if_neg hm] at hv
    cases hv
    subst hz
    have Hnb : Hid (nameB s n = ([], false)) := Lib.hid (by rw [nameB, if_neg hm])
    have Hy := Lib.hid hy
    clear hm hm2 hy
    go_enter Tryz.func39, Tryz.ntmps39
    go_wp2_with (go_at_call 72; refine (rlname_s s y Hy.out hs n [] false Hnb.out _).mono ?_; rintro e w1 ⟨rfl, rfl⟩)
    go_ret2
    exact ⟨none, 0, rfl, RdA.nil _, Stp.refl _⟩
end Go.Proofs.YtopihahjjcpnpaaGreatDoor.Label

