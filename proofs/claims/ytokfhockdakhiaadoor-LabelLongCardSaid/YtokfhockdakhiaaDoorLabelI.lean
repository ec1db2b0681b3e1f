/-
  Package label's contracts, as the laws want them, and the statements' awake: no statement is proved here.
-/
import Derived.Test.YtokfhockdakhiaaDoorLabelM2
import Derived.Test.YtokfhockdakhiaaDoorBase
import Derived.Lib.AppendIntMem
namespace Go.Proofs.YtokfhockdakhiaaDoor.Label
open Go.RowKit Go.Proofs.YtokfhockdakhiaaDoor.Str Go.Proofs.YtokfhockdakhiaaDoor.Base Go.Proofs.YtokfhockdakhiaaDoor.Head Go.Proofs.YtokfhockdakhiaaDoor.LabelM
set_option linter.unusedVariables false

/-- The library's table of tens stands as its own text lays it. -/
def Tab (w : World) : Prop := Lib.TabIs Tryd.prog w "internal/strconv.uint64pow10" .u64 Lib.pow10Tab
theorem Tab.keep {w w' : World} (h : Tab w) (hs : Stp w w') : Tab w' := Lib.tabBelow_of_tabIs h w' hs
structure LabelI : Prop where
  may : ∀ (s : L) (y : Nat), s.length = y → y ≤ 9223372036854775807 → ∀ (n : Int) (b : Bool), mayLb s n = b → ∀ w : World,
    Calls Tryd.prog 17 #[.string ⟨s.toArray⟩, .int .i64 n] w fun e w' => e = .returned (.bool b) ∧ Stp w w'
  name : ∀ (s : L) (y : Nat), s.length = y → y ≤ 9223372036854775807 → ∀ (n : Int) (x : L) (b : Bool), nameB s n = (x, b) → ∀ w : World, Tab w →
    Calls Tryd.prog 10 #[.string ⟨s.toArray⟩, .int .i64 n] w fun e w' => e = .returned (.tuple #[.string ⟨x.toArray⟩, .bool b]) ∧ Stp w w'
  put : ∀ (s : L) (y : Nat), s.length = y → y ≤ 9223372036854775807 → ∀ (n : Int) (x : L) (z : Nat) (b : Bool), putL s n = (x, b) → x.length = z → ∀ w : World, Tab w →
    Calls Tryd.prog 12 #[.string ⟨s.toArray⟩, .int .i64 n] w fun e w' => ∃ A c, e = .returned (.tuple #[.slice A z c, .bool b]) ∧ RdA w' A c (bs x) ∧ Stp w w'
  get : ∀ (l : L) (z : Nat), l.length = z → ∀ (s : L) (n e0 : Int), getL l = (s, n, e0) → ∀ (A : Option Addr) (c : Nat) (w : World), RdA w A c (bs l) → Tab w →
    Calls Tryd.prog 14 #[.slice A z c] w fun e w' => e = .returned (.tuple #[.string ⟨s.toArray⟩, .int .i64 n, .int .i64 e0]) ∧ Stp w w'

abbrev full : L := [102, 117, 108, 108]
theorem full_may : mayLb full 12 = true := by decide
theorem full_name : nameB full 12 = ([102, 117, 108, 108, 32, 86, 111, 108, 117, 109, 101, 32, 49, 50], true) := by
  rw [nameB, if_pos full_may]
  have e : dig (12 : Int).toNat = [49, 50] := by
    rw [show (12 : Int).toNat = 12 from rfl, dig_more (by omega), show 12 / 10 = 1 from rfl, dig_more (by omega), show 1 / 10 = 0 from rfl, dig_zero]
    rfl
  rw [nameV, e]
  rfl

set_option maxRecDepth 100000 in
set_option maxHeartbeats 2000000 in
theorem awake_s (I : LabelI) (w : World) (htab : Tab w) : Calls Tryd.prog 9 #[] w fun e w' => e = .returned (.bool true) ∧ Stp w w' := by
  have H := Lib.hid (Stp.refl w)
  have HT := Lib.hid htab
  clear htab
  have HI := Lib.hid I
  obtain ⟨b, hb⟩ : ∃ b, Head.blk (headV (nameV full (12 : Int).toNat)) = b := ⟨_, rfl⟩
  have hl : b.length = 512 := by rw [← hb]; exact blk_length (name_may full_may).1 (name_may full_may).2
  have hg : getL b = (full, 12, 0) := by rw [← hb]; exact getL_put full_may
  have hp : putL full 12 = (b, true) := by rw [putL, if_pos full_may, hb]
  have HN := Lib.hid full_name
  have HP := Lib.hid hp
  have HG := Lib.hid hg
  have HL := Lib.hid hl
  have HF := Lib.hid full_may
  have HY : Hid (full.length = 4) := Lib.hid rfl
  clear hb hl hg hp I
  go_enter Tryd.func9, Tryd.ntmps9
  go_wp2_with (first
    | (go_at_call 10; refine (HI.out.name full 4 HY.out (by omega) 12 _ _ HN.out _ (HT.out.keep H.out)).mono ?_; rintro e w1 ⟨rfl, hs⟩; replace H := Lib.hid (Stp.trans H.out hs); clear hs)
    | (go_at_call 12; refine (HI.out.put full 4 HY.out (by omega) 12 b 512 true HP.out HL.out _ (HT.out.keep H.out)).mono ?_; rintro e w2 ⟨A, c, rfl, hr, hs⟩; have HR := Lib.hid hr; replace H := Lib.hid (Stp.trans H.out hs); clear hr hs)
    | (go_at_call 14; refine (HI.out.get b 512 HL.out full 12 0 HG.out A c _ HR.out (HT.out.keep H.out)).mono ?_; rintro e w3 ⟨rfl, hs⟩; replace H := Lib.hid (Stp.trans H.out hs); clear hs)
    | (go_at_call 17; refine (HI.out.may full 4 HY.out (by omega) 12 true HF.out _).mono ?_; rintro e w4 ⟨rfl, hs⟩; replace H := Lib.hid (Stp.trans H.out hs); clear hs))
  go_ret
  exact ⟨rfl, H.out⟩
end Go.Proofs.YtokfhockdakhiaaDoor.Label
