/-
  The contract of the chapter's examples (awake): no statement is proved here.
-/
import Derived.Test.YtdjbddnbilemaaaNumGet
namespace Go.Proofs.Ytdjbddnbilemaaa.Num
open Go.RowKit Go.Proofs.Ytdjbddnbilemaaa.Base Go.Proofs.Ytdjbddnbilemaaa.NumM

/-- string(b), at this program's numbers. -/
theorem str_of (w : World) (B : Nat) (v : Value) (l : List UInt8) (h : Rd w B v (bs l)) : (convert 22 9 v).run Try.prog w = .ok (.string ⟨l.toArray⟩) w :=
  run_string_rd (P := Try.prog) w 22 9 5 Try.underlying22 Try.underlying5 Try.underlying9 B v l h

theorem put_8 : putL 4 8 = [48, 49, 48, 0] := by decide
theorem put_512 : putL 4 512 = [128, 0, 2, 0] := by decide
theorem oct_8 : octs 3 8 = [48, 49, 48] := by decide

set_option maxHeartbeats 800000 in
theorem awake_any (w : World) : Calls Try.prog 10 #[] w fun e w' => e = .returned (.bool true) ∧ Below w.heap.size w w' := by
  go_enter Try.func10, Try.ntmps10
  go_wp2_with fail
  refine (put_yes 8 4 w (by omega) (by decide)).mono ?_
  rintro e w1 ⟨a, rfl, ha, hb1⟩
  have ha : Own w1 w.heap.size 5 a (bs [48, 49, 48, 0]) := by rw [← put_8]; exact ha
  have Ha := Lib.hid ha
  have Hb1 := Lib.hid hb1
  clear ha hb1
  go_wp2_with fail
  refine (put_yes 512 4 w1 (by omega) (by decide)).mono ?_
  rintro e w2 ⟨b, rfl, hb, hb2⟩
  have hb : Own w2 w1.heap.size 5 b (bs [128, 0, 2, 0]) := by rw [← put_512]; exact hb
  have Ha2 := Lib.hid (Ha.out.keep hb2)
  have Hb := Lib.hid hb
  have Hb2 := Lib.hid (Hb1.out.trans (hb2.mono Hb1.out.size))
  clear hb hb2 Ha Hb1
  go_wp2_with fail
  refine (get_yes [128, 0, 2, 0] 512 b _ w2 Hb.out.rd (Nat.le_refl _) ⟨by decide, by decide, by omega, by decide, by decide⟩).mono ?_
  rintro e w3 ⟨rfl, hb3⟩
  have Ha3 := Lib.hid (Ha2.out.keep hb3)
  have Hc3 := Lib.hid (Hb.out.keep hb3)
  have Hb3 := Lib.hid (Hb2.out.trans (hb3.mono Hb2.out.size))
  clear hb3 Ha2 Hb Hb2
  go_wp2_with fail
  refine (oct_yes 8 3 w3 (by omega) (by decide)).mono ?_
  rintro e w4 ⟨rfl, hb4⟩
  have e3 : octs (3 : Int).toNat (8 : Int).toNat = [48, 49, 48] := oct_8
  rw [e3]
  have hca := str_of w4 _ _ _ (Ha3.out.keep hb4).rd
  have hcb := str_of w4 _ _ _ (Hc3.out.keep hb4).rd
  have Hb4 := Lib.hid (Hb3.out.trans (hb4.mono Hb3.out.size))
  clear hb4 Ha3 Hc3 Hb3 e3
  go_wp2_with fail
  refine (plain_any 8 4 w4 (by omega)).mono ?_
  rintro e w5 ⟨rfl, hb5⟩
  rw [show plainOk 8 4 = true by decide]
  have Hb5 := Lib.hid (Hb4.out.trans (hb5.mono Hb4.out.size))
  clear hb5 Hb4 hca hcb
  go_wp2_with fail
  refine (plain_any 512 4 w5 (by omega)).mono ?_
  rintro e w6 ⟨rfl, hb6⟩
  rw [show plainOk 512 4 = false by decide]
  have Hb6 := Lib.hid (Hb5.out.trans (hb6.mono Hb5.out.size))
  clear hb6 Hb5
  go_wp2_with fail
  go_ret
  exact ⟨rfl, Hb6.out⟩
end Go.Proofs.Ytdjbddnbilemaaa.Num
