/-
  DERIVED. GIVEN WITH THE SEED: THE CARDS: each row of YtllnnlmhbmladaaGreatDoorRows.lean that lists a variable, with what it lists TIED to the program's text (the seventh form; the later family's looks); each row that meets fmt, with fmt's text TOLD by the authors' own Lean function (tested against real Go, not proved from fmt's source: count such statements apart). THE CARD IS WHAT COUNTS. Prove the row's statement (the work); the ties are given (YtllnnlmhbmladaaGreatDoorTie.lean); close each card by the builder's one call (the guide's Derived/Test/ToyasCard.lean, 'card_holds'). Laid BY PROGRAM, IN A SANDBOX (cutbox-door.mjs). By AI agents, Wed Nov 11 2026. No macro, syntax, notation, axiom, sorry.
-/
import Derived.Test.YtllnnlmhbmladaaGreatDoorRows
import GoSem.ClaimSeven
namespace Go.Proofs.YtllnnlmhbmladaaGreatDoor
namespace Rows

/-- THE TIED CARD OF 'reelkeeperlaw18.CheckNext'. -/
def checkNextCard : Claim7 := { stood := { row := checkNextRow, standIns := [], harness := (true, "c2ade304fc7ad38a9d632937687f6b1041a0442e893c7b507f51df07d1792bdd"), looks := false }, kinds := [], alts := [], laidByText := true, laidKinds := [.data, .data, .data], laidTests := true, laidLooks := .later }
def CheckNextCardSaid : Prop := Claim7.holds Tryz.pinned (.plain (OpenSpec.ofChange checkNextSpec)) checkNextCard

/-- THE TIED CARD OF 'reelkeeperlaw18.CheckFinds'. -/
def checkFindsCard : Claim7 := { stood := { row := checkFindsRow, standIns := [], harness := (true, "c2ade304fc7ad38a9d632937687f6b1041a0442e893c7b507f51df07d1792bdd"), looks := false }, kinds := [], alts := [], laidByText := true, laidKinds := [.data, .data, .data], laidTests := true, laidLooks := .later }
def CheckFindsCardSaid : Prop := Claim7.holds Tryz.pinned (.plain (OpenSpec.ofChange checkFindsSpec)) checkFindsCard

/-- THE TIED CARD OF 'reelkeeperlaw18.CheckCut'. -/
def checkCutCard : Claim7 := { stood := { row := checkCutRow, standIns := [], harness := (true, "c2ade304fc7ad38a9d632937687f6b1041a0442e893c7b507f51df07d1792bdd"), looks := false }, kinds := [], alts := [], laidByText := true, laidKinds := [.data, .data, .data], laidTests := true, laidLooks := .later }
def CheckCutCardSaid : Prop := Claim7.holds Tryz.pinned (.plain (OpenSpec.ofChange checkCutSpec)) checkCutCard

/-- THE SECOND FORM's CARD OF 'reelkeeperlaw18.CheckNext'. -/
def checkNextUptoCard : Claim7 := { stood := { row := checkNextUptoRow, standIns := [], harness := (true, "c2ade304fc7ad38a9d632937687f6b1041a0442e893c7b507f51df07d1792bdd"), looks := false }, kinds := [], alts := [], laidByText := true, laidKinds := [.data, .data, .data], laidTests := true, laidLooks := .later }
def CheckNextUptoCardSaid : Prop := Claim7.holds Tryz.pinned (.plain (OpenSpec.upto checkNextSpec)) checkNextUptoCard

/-- THE SECOND FORM's CARD OF 'reelkeeperlaw18.CheckFinds'. -/
def checkFindsUptoCard : Claim7 := { stood := { row := checkFindsUptoRow, standIns := [], harness := (true, "c2ade304fc7ad38a9d632937687f6b1041a0442e893c7b507f51df07d1792bdd"), looks := false }, kinds := [], alts := [], laidByText := true, laidKinds := [.data, .data, .data], laidTests := true, laidLooks := .later }
def CheckFindsUptoCardSaid : Prop := Claim7.holds Tryz.pinned (.plain (OpenSpec.upto checkFindsSpec)) checkFindsUptoCard

/-- THE SECOND FORM's CARD OF 'reelkeeperlaw18.CheckCut'. -/
def checkCutUptoCard : Claim7 := { stood := { row := checkCutUptoRow, standIns := [], harness := (true, "c2ade304fc7ad38a9d632937687f6b1041a0442e893c7b507f51df07d1792bdd"), looks := false }, kinds := [], alts := [], laidByText := true, laidKinds := [.data, .data, .data], laidTests := true, laidLooks := .later }
def CheckCutUptoCardSaid : Prop := Claim7.holds Tryz.pinned (.plain (OpenSpec.upto checkCutSpec)) checkCutUptoCard
end Rows
end Go.Proofs.YtllnnlmhbmladaaGreatDoor
