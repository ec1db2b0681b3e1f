/-
  The law DriveWrites, walked over the contracts: no statement is proved here.
-/
import Derived.Test.YtaknnkcfoafkdaaDriveWrA
import Derived.Test.YtaknnkcfoafkdaaDriveWrB
import Derived.Test.YtaknnkcfoafkdaaDriveWrC
import Derived.Test.YtaknnkcfoafkdaaDriveWrD
namespace Go.Proofs.Ytaknnkcfoafkdaa.Drive
open Go.RowKit Go.Proofs.Ytaknnkcfoafkdaa.Str Go.Proofs.Ytaknnkcfoafkdaa.Base Go.Proofs.Ytaknnkcfoafkdaa.BlockM Go.Proofs.Ytaknnkcfoafkdaa.RecM Go.Proofs.Ytaknnkcfoafkdaa.TapeM Go.Proofs.Ytaknnkcfoafkdaa.Tape Go.Proofs.Ytaknnkcfoafkdaa.DriveM
set_option linter.unusedVariables false

theorem writes_rd (I : DriveI) (hAw : ∀ w : World, Calls Try.prog 9 #[] w fun e w' => e = .returned (.bool true) ∧ Stp w w') (d : Dr) (A : Option Addr) (k : Nat) (w : World) (ha : RdS w A k d.shelf) (hs : SmallD d) (r : L) (C : Option Addr) (l f : Nat) (hr : Rd w w.heap.size (.slice C l f) (bs r)) (hl9 : r.length < 9223372036854775808) (q : Int) :
    Calls Try.prog 4 #[dv d A k, .slice C l f, .int .i64 q] w fun e w' => e = .returned (.bool true) ∧ Stp w w' := by
  obtain ⟨C', f', e, hr'⟩ := RdA.of hr
  rw [bs_length] at e
  cases e
  obtain ⟨ts, i, p⟩ := d
  cases hF : fewDB ts
  · exact writes_no I hAw ts i p _ hs rfl A k w ha r _ rfl hl9 C f hr' q hF
  · by_cases hl : 12000 < r.length
    · exact writes_long I hAw ts i p _ hs rfl A k w ha r _ rfl hl9 C f hr' q hF hl
    · cases hM : mayD ⟨ts, i, p⟩
      · exact writes_may I hAw ts i p _ hs rfl A k w ha r _ rfl hl9 C f hr' q hF (by omega) hM
      · by_cases he : (writeD ⟨ts, i, p⟩ r).2 = 0
        · obtain ⟨j, pp, t, -, f1, f2, f3, -, f5, -, -, -, f9, f10⟩ := writeD_ok he
          dsimp only at f1 f2 f3
          rw [f9] at f10
          dsimp only at f9 f10
          rw [← f1, ← f2] at f9 f10
          by_cases h5 : q < 0
          · exact writes_low I hAw ts i p _ hs rfl A k w ha r _ rfl hl9 C f hr' q j pp _ _ f1 f2 t f3 rfl f5 rfl hF (by omega) hM _ rfl f9 f10 h5
          · by_cases h6 : (ts.length : Int) ≤ q
            · exact writes_high I hAw ts i p _ hs rfl A k w ha r _ rfl hl9 C f hr' q j pp _ _ f1 f2 t f3 rfl f5 rfl hF (by omega) hM _ rfl f9 f10 h6
            · by_cases h7 : q = i
              · exact writes_own I hAw ts i p _ hs rfl A k w ha r _ rfl hl9 C f hr' q j pp _ _ f1 f2 t f3 rfl f5 rfl hF (by omega) hM _ rfl f9 f10 (by omega) (by omega) h7
              · exact writes_other I hAw ts i p _ hs rfl A k w ha r _ rfl hl9 C f hr' q j pp _ _ f1 f2 t f3 rfl f5 rfl hF (by omega) hM _ rfl f9 f10 (by omega) (by omega) h7
        · exact writes_err I hAw ts i p _ hs rfl A k w ha r _ rfl hl9 C f hr' q hF (by omega) hM he
end Go.Proofs.Ytaknnkcfoafkdaa.Drive
