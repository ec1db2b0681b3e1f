/-
  The law LabelName, walked over the contracts: no statement is proved here.
-/
import Derived.Test.YtokfhockdakhiaaDoorLabelApartW
import Derived.Test.YtokfhockdakhiaaDoorLabelRef2
import Derived.Test.YtokfhockdakhiaaDoorLabelG
namespace Go.Proofs.YtokfhockdakhiaaDoor.Label
open Go.RowKit Go.Proofs.YtokfhockdakhiaaDoor.Str Go.Proofs.YtokfhockdakhiaaDoor.Base Go.Proofs.YtokfhockdakhiaaDoor.Head Go.Proofs.YtokfhockdakhiaaDoor.LabelM
set_option linter.unusedVariables false

set_option maxRecDepth 100000 in
set_option maxHeartbeats 4000000 in
theorem name_out (I : LabelI) (s : L) (hs : s.length ≤ 9223372036854775807) (n : Int) (w : World) (htab : Tab w) (hout : 200 < s.length ∨ mayLb s n = false) :
    Calls Tryd.prog 7 #[.string ⟨s.toArray⟩, .int .i64 n] w fun e w' => e = .returned (.bool true) ∧ Stp w w' := by
  have H := Lib.hid (Stp.refl w)
  have HT := Lib.hid htab
  clear htab
  have HI := Lib.hid I
  have HA := Lib.hid (awake_s I)
  have hsz : s.toArray.size = s.length := by simp
  have key : decide ((200 : Int) < (s.length : Int)) = true ∨ (decide ((200 : Int) < (s.length : Int)) = false ∧ mayLb s n = false) := by
    by_cases h : 200 < s.length
    · exact .inl (decide_eq_true (by omega))
    · exact .inr ⟨decide_eq_false (by omega), hout.resolve_left h⟩
  clear hout I
  rcases key with k1 | ⟨k1, hm⟩
  · go_enter Tryd.func7, Tryd.ntmps7
    go_wp2_with (go_at_call 9; refine (HA.out _ (HT.out.keep H.out)).mono ?_; rintro e w1 ⟨rfl, hs1⟩; replace H := Lib.hid (Stp.trans H.out hs1); clear hs1)
    go_ret
    exact ⟨rfl, H.out⟩
  · have Hx : Hid (nameB s n = ([], false)) := Lib.hid (by rw [nameB, if_neg (by simp [hm])])
    have Hm := Lib.hid hm
    clear hm
    go_enter Tryd.func7, Tryd.ntmps7
    go_wp2_with (first
      | (go_at_call 9; refine (HA.out _ (HT.out.keep H.out)).mono ?_; rintro e w1 ⟨rfl, hs1⟩; replace H := Lib.hid (Stp.trans H.out hs1); clear hs1)
      | (go_at_call 10; (with_reducible refine (HI.out.name s _ rfl hs n _ _ Hx.out _ (HT.out.keep H.out)).mono ?_); rintro e w4 ⟨rfl, hs1⟩; replace H := Lib.hid (Stp.trans H.out hs1); clear hs1)
      | (go_at_call 17; (with_reducible refine (HI.out.may _ _ rfl hs n _ Hm.out _).mono ?_); rintro e w4 ⟨rfl, hs1⟩; replace H := Lib.hid (Stp.trans H.out hs1); clear hs1))
    go_ret
    exact ⟨rfl, H.out⟩
theorem ext_a (s t : L) : (⟨(s ++ t).toArray⟩ : ByteArray).extract 0 s.length = ⟨s.toArray⟩ := ba_eq (by rw [ByteArray.data_extract]; simp)
theorem keyD {n : Int} (h1 : 1 ≤ n) (h2 : n ≤ 999) : ∃ D : L, dig n.toNat = D ∧ numV D = n ∧ (∃ a r, D = a :: r ∧ a ≠ 48) ∧ (∀ x ∈ D, 48 ≤ x.toNat ∧ x.toNat ≤ 57) ∧
    ((D.length = 1 ∧ decide ((9 : Int) < n) = false ∧ decide ((99 : Int) < n) = false) ∨ (D.length = 2 ∧ decide ((9 : Int) < n) = true ∧ decide ((99 : Int) < n) = false) ∨ (D.length = 3 ∧ decide ((9 : Int) < n) = true ∧ decide ((99 : Int) < n) = true)) := by
  refine ⟨_, rfl, ?_, dig_head (by omega), dig_bytes _, ?_⟩
  · rw [num_dig]
    omega
  · rw [dig_len (by omega) (by omega)]
    by_cases h : n < 10
    · rw [if_pos (by omega)]
      exact .inl ⟨rfl, decide_eq_false (by omega), decide_eq_false (by omega)⟩
    · rw [if_neg (by omega)]
      by_cases h' : n < 100
      · rw [if_pos (by omega)]
        exact .inr (.inl ⟨rfl, decide_eq_true (by omega), decide_eq_false (by omega)⟩)
      · rw [if_neg (by omega)]
        exact .inr (.inr ⟨rfl, decide_eq_true (by omega), decide_eq_true (by omega)⟩)
def NRel (s D : L) (m i : Value) : Prop := ∃ j : Nat, j ≤ D.length ∧ i = .int .i64 ((s.length : Int) + 8 + (j : Int)) ∧ m = .int .i64 (numV (D.take j))
theorem ext_m (a b c : L) : (⟨(a ++ b ++ c).toArray⟩ : ByteArray).extract a.length (a.length + b.length) = ⟨b.toArray⟩ := ba_eq (by rw [ByteArray.data_extract]; simp [List.extract])
set_option maxRecDepth 100000 in
set_option maxHeartbeats 4000000 in
theorem name_in (I : LabelI) (s : L) (hs : s.length ≤ 9223372036854775807) (n : Int) (w : World) (htab : Tab w) (hl : s.length ≤ 200) (hm : mayLb s n = true) :
    Calls Tryd.prog 7 #[.string ⟨s.toArray⟩, .int .i64 n] w fun e w' => e = .returned (.bool true) ∧ Stp w w' := by
  have H := Lib.hid (Stp.refl w)
  have HT := Lib.hid htab
  clear htab
  have HI := Lib.hid I
  have HA := Lib.hid (awake_s I)
  have hsz : s.toArray.size = s.length := by simp
  have k1 : decide ((200 : Int) < (s.length : Int)) = false := decide_eq_false (by omega)
  have hmm := (mayLb_iff.1 hm).2.2.2
  obtain ⟨D, hD, hnum, ⟨a, r, har, ha⟩, hdig, key⟩ := keyD hmm.1 hmm.2
  have hx : nameB s n = (nameV s n.toNat, true) := by rw [nameB, if_pos hm]
  rw [nameV, hD] at hx
  have he1 : (⟨(s ++ volS ++ D).toArray⟩ : ByteArray).extract 0 s.length = ⟨s.toArray⟩ := by rw [List.append_assoc]; exact ext_a _ _
  have he2 : (⟨(s ++ volS ++ D).toArray⟩ : ByteArray).extract s.length (s.length + 8) = ⟨#[32, 86, 111, 108, 117, 109, 101, 32]⟩ := ext_m s volS D
  have hix : ∀ j x, D[j]? = some x → (s ++ volS ++ D)[s.length + 8 + j]? = some x := fun j x h => by
    rw [List.getElem?_append_right (by rw [List.length_append, volS_len]; omega), List.length_append, volS_len, Nat.add_sub_cancel_left]
    exact h
  have hxl : (s ++ volS ++ D).length = s.length + 8 + D.length := by rw [List.length_append, List.length_append, volS_len]
  obtain ⟨x, hX⟩ : ∃ x, s ++ volS ++ D = x := ⟨_, rfl⟩
  rw [hX] at hx he1 he2 hix hxl
  obtain ⟨z, hz⟩ : ∃ z, x.length = z := ⟨_, rfl⟩
  rw [hz] at hxl
  have hxz : x.toArray.size = z := by simpa using hz
  have Hx := Lib.hid hx
  have Hn := Lib.hid hnum
  have Hi := Lib.hid hix
  have Hd := Lib.hid hdig
  have Ha := Lib.hid har
  have Hz := Lib.hid hz
  have Hl := Lib.hid hxl
  have a1 : (s.length : Int) ≤ (z : Int) := by omega
  have a2 : (s.length : Int) + 8 ≤ (z : Int) := by omega
  have a3 : (s.length : Int) ≤ (s.length : Int) + 8 := by omega
  have k5 : ((z : Int) != (s.length : Int) + 8 + (D.length : Int)) = false := by rw [hxl]; simp
  clear I hx hnum hix hdig har hz hX hm hmm hD hxl
  rcases key with ⟨hd, k3, k4⟩ | ⟨hd, k3, k4⟩ | ⟨hd, k3, k4⟩
  all_goals
    rw [hd] at k5
    (first | replace k5 : ((z : Int) != (s.length : Int) + 8 + 1) = false := k5 | replace k5 : ((z : Int) != (s.length : Int) + 8 + 2) = false := k5 | replace k5 : ((z : Int) != (s.length : Int) + 8 + 3) = false := k5)
    have Hdl := Lib.hid hd
    clear hd
    go_enter Tryd.func7, Tryd.ntmps7
    go_wp2_with (first
      | (go_at_call 9; refine (HA.out _ (HT.out.keep H.out)).mono ?_; rintro e w1 ⟨rfl, hs1⟩; replace H := Lib.hid (Stp.trans H.out hs1); clear hs1)
      | (go_at_call 10; (with_reducible refine (HI.out.name s _ rfl hs n _ _ Hx.out _ (HT.out.keep H.out)).mono ?_); rintro e w4 ⟨rfl, hs1⟩; replace H := Lib.hid (Stp.trans H.out hs1); clear hs1))
    go_loop [9, 10] (fun m i => NRel s D m i) (fun _ i => z - (intOf i).toNat)
    case atStart => exact ⟨0, by omega, congrArg (Value.int .i64) (by omega), rfl⟩
    case round =>
      obtain ⟨j, hj, rfl, rfl⟩ := hrel
      have hL := Hl.out
      have hj3 : j ≤ 3 := by have := Hdl.out; omega
      by_cases hlt : j < D.length
      · obtain ⟨b, hb⟩ : ∃ b, D[j]? = some b := ⟨_, List.getElem?_eq_getElem hlt⟩
        have hmem : b ∈ D := List.mem_of_getElem? hb
        obtain ⟨d1, d2⟩ := Hd.out b hmem
        have hst := num_next hb
        obtain ⟨v1, v2⟩ := num_small (fun c hc => Hd.out c (List.mem_of_mem_take hc)) (show (D.take j).length ≤ 3 by rw [List.length_take]; omega)
        have hix := Str.idx_l x ((s.length : Int) + 8 + (j : Int)) b (by omega) (by rw [show ((s.length : Int) + 8 + (j : Int)).toNat = s.length + 8 + j from by omega]; exact Hi.out j b hb)
        obtain ⟨y, hy⟩ : ∃ y : Int, (b.toNat : Int) = y := ⟨_, rfl⟩
        obtain ⟨v, hv⟩ : ∃ v : Int, numV (D.take j) = v := ⟨_, rfl⟩
        have e1 : 48 ≤ y := by omega
        have e2 : y ≤ 57 := by omega
        rw [hv] at v1 v2 hst ⊢
        rw [hy] at hix hst
        have g1 : decide ((s.length : Int) + 8 + (j : Int) < (z : Int)) = true := decide_eq_true (by omega)
        have R := Lib.hid (show NRel s D (.int .i64 (10 * v + y - 48)) (.int .i64 ((s.length : Int) + 8 + (j : Int) + 1)) from ⟨j + 1, by omega, congrArg (Value.int .i64) (by omega), congrArg (Value.int .i64) (by omega)⟩)
        have hm : z - ((s.length : Int) + 8 + (j : Int) + 1).toNat < z - ((s.length : Int) + 8 + (j : Int)).toNat := by omega
        have Hms := Lib.hid hm
        clear hb hmem hst hy hv d1 d2 hL hm
        go_wp2_with fail
        go_round
        · first
            | exact R.out
            | (repeat apply Exists.intro
               refine ⟨R.out, ?_⟩
               repeat' first | rfl | constructor)
        · exact Hms.out
      · have g1 : decide ((s.length : Int) + 8 + (j : Int) < (z : Int)) = false := decide_eq_false (by omega)
        have hix := Str.idx_l x ((s.length : Int) + 8) a (by omega) (by rw [show ((s.length : Int) + 8).toNat = s.length + 8 + 0 from by omega]; exact Hi.out 0 a (by rw [Ha.out]; rfl))
        have g2 : ((a.toNat : Int) != 48) = true := by
          rw [bne_iff_ne]
          intro e
          exact ha (UInt8.toNat_inj.1 (by show a.toNat = 48; omega))
        rw [show D.take j = D from List.take_of_length_le (by omega), Hn.out]
        clear hL
        go_wp2_with fail
        go_ret
        exact ⟨rfl, H.out⟩
theorem name_walk (I : LabelI) (s : L) (hs : s.length ≤ 9223372036854775807) (n : Int) (w : World) (htab : Tab w) :
    Calls Tryd.prog 7 #[.string ⟨s.toArray⟩, .int .i64 n] w fun e w' => e = .returned (.bool true) ∧ Stp w w' := by
  by_cases h : 200 < s.length ∨ mayLb s n = false
  · exact name_out I s hs n w htab h
  · exact name_in I s hs n w htab (by omega) (by simpa using fun e => h (.inr e))
end Go.Proofs.YtokfhockdakhiaaDoor.Label
