/-
  The law LabelLong, walked over the contracts: no statement is proved here.
-/
import Derived.Test.YtokfhockdakhiaaDoorLabelI
namespace Go.Proofs.YtokfhockdakhiaaDoor.Label
open Go.RowKit Go.Proofs.YtokfhockdakhiaaDoor.Str Go.Proofs.YtokfhockdakhiaaDoor.Base Go.Proofs.YtokfhockdakhiaaDoor.Head Go.Proofs.YtokfhockdakhiaaDoor.LabelM
set_option linter.unusedVariables false

theorem good_may {s : L} {y : Nat} {n : Int} (hy : s.length = y) (h1 : 1 ≤ n) (h2 : n ≤ 999) : mayLb s n = (decide (1 ≤ (y : Int)) && decide ((y : Int) ≤ 88) && s.all fun x => x != 0) := by
  rw [mayLb, hy, decide_eq_true h1, decide_eq_true h2, Bool.and_true, Bool.and_true, show decide (1 ≤ (y : Int)) = decide (1 ≤ y) from decide_eq_decide.2 (by omega), show decide ((y : Int) ≤ 88) = decide (y ≤ 88) from decide_eq_decide.2 (by omega), Bool.and_assoc, Bool.and_comm]
theorem putL_of {s : L} {n : Int} {b : Bool} (h : mayLb s n = b) : ∃ x, putL s n = (x, b) ∧ x.length = if b = true then 512 else 0 := by
  subst h
  cases hm : mayLb s n
  · exact ⟨[], by rw [putL, if_neg (by simp [hm])], rfl⟩
  · exact ⟨_, by rw [putL, if_pos hm], by rw [if_pos rfl]; exact blk_length (name_may hm).1 (name_may hm).2⟩
set_option maxRecDepth 100000 in
set_option maxHeartbeats 4000000 in
theorem long_out (I : LabelI) (s : L) (y : Nat) (hy : s.length = y) (hs : y ≤ 9223372036854775807) (n : Int) (w : World) (htab : Tab w) (hout : 200 < y ∨ n < 1 ∨ 999 < n) :
    Calls Tryd.prog 8 #[.string ⟨s.toArray⟩, .int .i64 n] w fun e w' => e = .returned (.bool true) ∧ Stp w w' := by
  have H := Lib.hid (Stp.refl w)
  have HT := Lib.hid htab
  clear htab
  have HA := Lib.hid (awake_s I)
  have hsz : s.toArray.size = y := by rw [← hy]; simp
  obtain ⟨b1, k1⟩ : ∃ b, decide ((200 : Int) < (y : Int)) = b := ⟨_, rfl⟩
  obtain ⟨b2, k2⟩ : ∃ b, decide (n < 1) = b := ⟨_, rfl⟩
  obtain ⟨b3, k3⟩ : ∃ b, decide ((999 : Int) < n) = b := ⟨_, rfl⟩
  have k4 : b1 = true ∨ b2 = true ∨ b3 = true := by
    rw [← k1, ← k2, ← k3, decide_eq_true_eq, decide_eq_true_eq, decide_eq_true_eq]
    omega
  clear hy hout I
  cases b1 <;> cases b2 <;> cases b3 <;> simp at k4
  all_goals
    go_enter Tryd.func8, Tryd.ntmps8
    go_wp2_with (go_at_call 9; refine (HA.out _ (HT.out.keep H.out)).mono ?_; rintro e w1 ⟨rfl, hs1⟩; replace H := Lib.hid (Stp.trans H.out hs1); clear hs1)
    go_ret
    exact ⟨rfl, H.out⟩
theorem all_next {l : L} {k : Nat} {x : UInt8} (hl : l[k]? = some x) : (l.take (k + 1)).all (fun x => !((x.toNat : Int) == 0)) = ((l.take k).all (fun x => !((x.toNat : Int) == 0)) && !((x.toNat : Int) == 0)) := by
  rw [List.take_add_one, hl, List.all_append]
  simp
theorem all_toNat (s : L) : (s.all fun x => x != 0) = s.all fun x => !((x.toNat : Int) == 0) := by
  congr 1
  funext x
  show (!(x == 0)) = !((x.toNat : Int) == 0)
  congr 1
  rw [Bool.eq_iff_iff, beq_iff_eq, beq_iff_eq]
  constructor
  · rintro rfl
    rfl
  · intro e
    exact UInt8.toNat_inj.1 (by show x.toNat = 0; omega)
def LRel (s : L) (g0 : Bool) (g i : Value) : Prop := ∃ k : Nat, k ≤ s.length ∧ i = .int .i64 (k : Int) ∧ g = .bool (g0 && (s.take k).all fun x => !((x.toNat : Int) == 0))
set_option maxRecDepth 100000 in
set_option maxHeartbeats 4000000 in
theorem long_in (I : LabelI) (s : L) (hs : s.length ≤ 9223372036854775807) (n : Int) (w : World) (htab : Tab w) (hlen : s.length ≤ 200) (h1 : 1 ≤ n) (h2 : n ≤ 999) :
    Calls Tryd.prog 8 #[.string ⟨s.toArray⟩, .int .i64 n] w fun e w' => e = .returned (.bool true) ∧ Stp w w' := by
  have H := Lib.hid (Stp.refl w)
  have HT := Lib.hid htab
  clear htab
  have HI := Lib.hid I
  have HA := Lib.hid (awake_s I)
  have hsz : s.toArray.size = s.length := by simp
  have k1 : decide ((200 : Int) < (s.length : Int)) = false := decide_eq_false (by omega)
  have k2 : decide (n < 1) = false := decide_eq_false (by omega)
  have k3 : decide ((999 : Int) < n) = false := decide_eq_false (by omega)
  have HM := good_may (s := s) rfl h1 h2
  rw [all_toNat] at HM
  obtain ⟨b1, k6⟩ : ∃ b, decide (1 ≤ (s.length : Int)) = b := ⟨_, rfl⟩
  obtain ⟨b2, k7⟩ : ∃ b, decide ((s.length : Int) ≤ 88) = b := ⟨_, rfl⟩
  rw [k6, k7] at HM
  replace HM := Lib.hid HM
  clear I h1 h2
  cases b1 <;> cases b2
  all_goals
    go_enter Tryd.func8, Tryd.ntmps8
    go_wp2_with (go_at_call 9; refine (HA.out _ (HT.out.keep H.out)).mono ?_; rintro e w1 ⟨rfl, hs1⟩; replace H := Lib.hid (Stp.trans H.out hs1); clear hs1)
  · go_loop [6, 7] (fun g i => LRel s false g i) (fun _ i => s.length - (intOf i).toNat)
    case atStart => exact ⟨0, by omega, rfl, by simp⟩
    case round =>
      obtain ⟨k, hk, rfl, rfl⟩ := hrel
      by_cases hlt : k < s.length
      · obtain ⟨x, hl1⟩ : ∃ x, s[k]? = some x := ⟨_, List.getElem?_eq_getElem hlt⟩
        have hix := Str.idx_l s (k : Int) x (by omega) (by rw [Int.toNat_natCast]; exact hl1)
        have Hst := Lib.hid (all_next hl1)
        obtain ⟨y, hy⟩ : ∃ y : Int, (x.toNat : Int) = y := ⟨_, rfl⟩
        rw [hy] at hix Hst
        obtain ⟨z1, hz1⟩ : ∃ z1, (false && (s.take k).all fun x => !((x.toNat : Int) == 0)) = z1 := ⟨_, rfl⟩
        have hz2 : (false && (s.take (k + 1)).all fun x => !((x.toNat : Int) == 0)) = (z1 && !(y == 0)) := by rw [Hst.out, ← Bool.and_assoc, hz1]
        have Hz2 := Lib.hid hz2
        rw [hz1]
        clear hl1 hy hz1 hz2 Hst
        cases z1
        · have R := Lib.hid (show LRel s false (.bool false) (.int .i64 ((k : Int) + 1)) from ⟨k + 1, by omega, by go_num, by rw [Hz2.out]; rfl⟩)
          go_wp2_with fail
          go_round
          · first
              | exact R.out
              | (repeat apply Exists.intro
                 refine ⟨R.out, ?_⟩
                 repeat' first | rfl | constructor)
          · simp [intOf]; omega
        · have R := Lib.hid (show LRel s false (.bool (y != 0)) (.int .i64 ((k : Int) + 1)) from ⟨k + 1, by omega, by go_num, by rw [Hz2.out]; rfl⟩)
          go_wp2_with fail
          go_round
          · first
              | exact R.out
              | (repeat apply Exists.intro
                 refine ⟨R.out, ?_⟩
                 repeat' first | rfl | constructor)
          · simp [intOf]; omega
      · obtain rfl : k = s.length := by omega
        rw [List.take_length]
        have hmw : mayLb s n = (false && s.all fun x => !((x.toNat : Int) == 0)) := HM.out
        generalize hgv : (false && s.all fun x => !((x.toNat : Int) == 0)) = gv at hmw ⊢
        clear hgv HM
        have Hmw := Lib.hid hmw
        obtain ⟨x, hp, hlx⟩ := putL_of hmw
        clear hmw
        have Hp := Lib.hid hp
        clear hp
        cases gv
        all_goals
          (first | rw [if_pos rfl] at hlx | rw [if_neg (by decide)] at hlx)
          have Hlx := Lib.hid hlx
          clear hlx
          go_wp2_with (first
            | (go_at_call 12; (with_reducible refine (HI.out.put s s.length rfl hs n x _ _ Hp.out Hlx.out _ (HT.out.keep H.out)).mono ?_); rintro e w2 ⟨A, c, rfl, hr, hs1⟩; replace H := Lib.hid (Stp.trans H.out hs1); clear hr hs1)
            | (go_at_call 17; (with_reducible refine (HI.out.may s s.length rfl hs n _ Hmw.out _).mono ?_); rintro e w4 ⟨rfl, hs1⟩; replace H := Lib.hid (Stp.trans H.out hs1); clear hs1))
          go_ret
          exact ⟨rfl, H.out⟩
  · go_loop [6, 7] (fun g i => LRel s false g i) (fun _ i => s.length - (intOf i).toNat)
    case atStart => exact ⟨0, by omega, rfl, by simp⟩
    case round =>
      obtain ⟨k, hk, rfl, rfl⟩ := hrel
      by_cases hlt : k < s.length
      · obtain ⟨x, hl1⟩ : ∃ x, s[k]? = some x := ⟨_, List.getElem?_eq_getElem hlt⟩
        have hix := Str.idx_l s (k : Int) x (by omega) (by rw [Int.toNat_natCast]; exact hl1)
        have Hst := Lib.hid (all_next hl1)
        obtain ⟨y, hy⟩ : ∃ y : Int, (x.toNat : Int) = y := ⟨_, rfl⟩
        rw [hy] at hix Hst
        obtain ⟨z1, hz1⟩ : ∃ z1, (false && (s.take k).all fun x => !((x.toNat : Int) == 0)) = z1 := ⟨_, rfl⟩
        have hz2 : (false && (s.take (k + 1)).all fun x => !((x.toNat : Int) == 0)) = (z1 && !(y == 0)) := by rw [Hst.out, ← Bool.and_assoc, hz1]
        have Hz2 := Lib.hid hz2
        rw [hz1]
        clear hl1 hy hz1 hz2 Hst
        cases z1
        · have R := Lib.hid (show LRel s false (.bool false) (.int .i64 ((k : Int) + 1)) from ⟨k + 1, by omega, by go_num, by rw [Hz2.out]; rfl⟩)
          go_wp2_with fail
          go_round
          · first
              | exact R.out
              | (repeat apply Exists.intro
                 refine ⟨R.out, ?_⟩
                 repeat' first | rfl | constructor)
          · simp [intOf]; omega
        · have R := Lib.hid (show LRel s false (.bool (y != 0)) (.int .i64 ((k : Int) + 1)) from ⟨k + 1, by omega, by go_num, by rw [Hz2.out]; rfl⟩)
          go_wp2_with fail
          go_round
          · first
              | exact R.out
              | (repeat apply Exists.intro
                 refine ⟨R.out, ?_⟩
                 repeat' first | rfl | constructor)
          · simp [intOf]; omega
      · obtain rfl : k = s.length := by omega
        rw [List.take_length]
        have hmw : mayLb s n = (false && s.all fun x => !((x.toNat : Int) == 0)) := HM.out
        generalize hgv : (false && s.all fun x => !((x.toNat : Int) == 0)) = gv at hmw ⊢
        clear hgv HM
        have Hmw := Lib.hid hmw
        obtain ⟨x, hp, hlx⟩ := putL_of hmw
        clear hmw
        have Hp := Lib.hid hp
        clear hp
        cases gv
        all_goals
          (first | rw [if_pos rfl] at hlx | rw [if_neg (by decide)] at hlx)
          have Hlx := Lib.hid hlx
          clear hlx
          go_wp2_with (first
            | (go_at_call 12; (with_reducible refine (HI.out.put s s.length rfl hs n x _ _ Hp.out Hlx.out _ (HT.out.keep H.out)).mono ?_); rintro e w2 ⟨A, c, rfl, hr, hs1⟩; replace H := Lib.hid (Stp.trans H.out hs1); clear hr hs1)
            | (go_at_call 17; (with_reducible refine (HI.out.may s s.length rfl hs n _ Hmw.out _).mono ?_); rintro e w4 ⟨rfl, hs1⟩; replace H := Lib.hid (Stp.trans H.out hs1); clear hs1))
          go_ret
          exact ⟨rfl, H.out⟩
  · go_loop [6, 7] (fun g i => LRel s false g i) (fun _ i => s.length - (intOf i).toNat)
    case atStart => exact ⟨0, by omega, rfl, by simp⟩
    case round =>
      obtain ⟨k, hk, rfl, rfl⟩ := hrel
      by_cases hlt : k < s.length
      · obtain ⟨x, hl1⟩ : ∃ x, s[k]? = some x := ⟨_, List.getElem?_eq_getElem hlt⟩
        have hix := Str.idx_l s (k : Int) x (by omega) (by rw [Int.toNat_natCast]; exact hl1)
        have Hst := Lib.hid (all_next hl1)
        obtain ⟨y, hy⟩ : ∃ y : Int, (x.toNat : Int) = y := ⟨_, rfl⟩
        rw [hy] at hix Hst
        obtain ⟨z1, hz1⟩ : ∃ z1, (false && (s.take k).all fun x => !((x.toNat : Int) == 0)) = z1 := ⟨_, rfl⟩
        have hz2 : (false && (s.take (k + 1)).all fun x => !((x.toNat : Int) == 0)) = (z1 && !(y == 0)) := by rw [Hst.out, ← Bool.and_assoc, hz1]
        have Hz2 := Lib.hid hz2
        rw [hz1]
        clear hl1 hy hz1 hz2 Hst
        cases z1
        · have R := Lib.hid (show LRel s false (.bool false) (.int .i64 ((k : Int) + 1)) from ⟨k + 1, by omega, by go_num, by rw [Hz2.out]; rfl⟩)
          go_wp2_with fail
          go_round
          · first
              | exact R.out
              | (repeat apply Exists.intro
                 refine ⟨R.out, ?_⟩
                 repeat' first | rfl | constructor)
          · simp [intOf]; omega
        · have R := Lib.hid (show LRel s false (.bool (y != 0)) (.int .i64 ((k : Int) + 1)) from ⟨k + 1, by omega, by go_num, by rw [Hz2.out]; rfl⟩)
          go_wp2_with fail
          go_round
          · first
              | exact R.out
              | (repeat apply Exists.intro
                 refine ⟨R.out, ?_⟩
                 repeat' first | rfl | constructor)
          · simp [intOf]; omega
      · obtain rfl : k = s.length := by omega
        rw [List.take_length]
        have hmw : mayLb s n = (false && s.all fun x => !((x.toNat : Int) == 0)) := HM.out
        generalize hgv : (false && s.all fun x => !((x.toNat : Int) == 0)) = gv at hmw ⊢
        clear hgv HM
        have Hmw := Lib.hid hmw
        obtain ⟨x, hp, hlx⟩ := putL_of hmw
        clear hmw
        have Hp := Lib.hid hp
        clear hp
        cases gv
        all_goals
          (first | rw [if_pos rfl] at hlx | rw [if_neg (by decide)] at hlx)
          have Hlx := Lib.hid hlx
          clear hlx
          go_wp2_with (first
            | (go_at_call 12; (with_reducible refine (HI.out.put s s.length rfl hs n x _ _ Hp.out Hlx.out _ (HT.out.keep H.out)).mono ?_); rintro e w2 ⟨A, c, rfl, hr, hs1⟩; replace H := Lib.hid (Stp.trans H.out hs1); clear hr hs1)
            | (go_at_call 17; (with_reducible refine (HI.out.may s s.length rfl hs n _ Hmw.out _).mono ?_); rintro e w4 ⟨rfl, hs1⟩; replace H := Lib.hid (Stp.trans H.out hs1); clear hs1))
          go_ret
          exact ⟨rfl, H.out⟩
  · go_loop [6, 7] (fun g i => LRel s true g i) (fun _ i => s.length - (intOf i).toNat)
    case atStart => exact ⟨0, by omega, rfl, by simp⟩
    case round =>
      obtain ⟨k, hk, rfl, rfl⟩ := hrel
      by_cases hlt : k < s.length
      · obtain ⟨x, hl1⟩ : ∃ x, s[k]? = some x := ⟨_, List.getElem?_eq_getElem hlt⟩
        have hix := Str.idx_l s (k : Int) x (by omega) (by rw [Int.toNat_natCast]; exact hl1)
        have Hst := Lib.hid (all_next hl1)
        obtain ⟨y, hy⟩ : ∃ y : Int, (x.toNat : Int) = y := ⟨_, rfl⟩
        rw [hy] at hix Hst
        obtain ⟨z1, hz1⟩ : ∃ z1, (true && (s.take k).all fun x => !((x.toNat : Int) == 0)) = z1 := ⟨_, rfl⟩
        have hz2 : (true && (s.take (k + 1)).all fun x => !((x.toNat : Int) == 0)) = (z1 && !(y == 0)) := by rw [Hst.out, ← Bool.and_assoc, hz1]
        have Hz2 := Lib.hid hz2
        rw [hz1]
        clear hl1 hy hz1 hz2 Hst
        cases z1
        · have R := Lib.hid (show LRel s true (.bool false) (.int .i64 ((k : Int) + 1)) from ⟨k + 1, by omega, by go_num, by rw [Hz2.out]; rfl⟩)
          go_wp2_with fail
          go_round
          · first
              | exact R.out
              | (repeat apply Exists.intro
                 refine ⟨R.out, ?_⟩
                 repeat' first | rfl | constructor)
          · simp [intOf]; omega
        · have R := Lib.hid (show LRel s true (.bool (y != 0)) (.int .i64 ((k : Int) + 1)) from ⟨k + 1, by omega, by go_num, by rw [Hz2.out]; rfl⟩)
          go_wp2_with fail
          go_round
          · first
              | exact R.out
              | (repeat apply Exists.intro
                 refine ⟨R.out, ?_⟩
                 repeat' first | rfl | constructor)
          · simp [intOf]; omega
      · obtain rfl : k = s.length := by omega
        rw [List.take_length]
        have hmw : mayLb s n = (true && s.all fun x => !((x.toNat : Int) == 0)) := HM.out
        generalize hgv : (true && s.all fun x => !((x.toNat : Int) == 0)) = gv at hmw ⊢
        clear hgv HM
        have Hmw := Lib.hid hmw
        obtain ⟨x, hp, hlx⟩ := putL_of hmw
        clear hmw
        have Hp := Lib.hid hp
        clear hp
        cases gv
        all_goals
          (first | rw [if_pos rfl] at hlx | rw [if_neg (by decide)] at hlx)
          have Hlx := Lib.hid hlx
          clear hlx
          go_wp2_with (first
            | (go_at_call 12; (with_reducible refine (HI.out.put s s.length rfl hs n x _ _ Hp.out Hlx.out _ (HT.out.keep H.out)).mono ?_); rintro e w2 ⟨A, c, rfl, hr, hs1⟩; replace H := Lib.hid (Stp.trans H.out hs1); clear hr hs1)
            | (go_at_call 17; (with_reducible refine (HI.out.may s s.length rfl hs n _ Hmw.out _).mono ?_); rintro e w4 ⟨rfl, hs1⟩; replace H := Lib.hid (Stp.trans H.out hs1); clear hs1))
          go_ret
          exact ⟨rfl, H.out⟩
theorem long_walk (I : LabelI) (s : L) (hs : s.length ≤ 9223372036854775807) (n : Int) (w : World) (htab : Tab w) :
    Calls Tryd.prog 8 #[.string ⟨s.toArray⟩, .int .i64 n] w fun e w' => e = .returned (.bool true) ∧ Stp w w' := by
  by_cases h : 200 < s.length ∨ n < 1 ∨ 999 < n
  · exact long_out I s s.length rfl hs n w htab h
  · exact long_in I s hs n w htab (by omega) (by omega) (by omega)
end Go.Proofs.YtokfhockdakhiaaDoor.Label
