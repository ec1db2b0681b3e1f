/-
  DERIVED. GIVEN WITH THE SEED: THE CARDS: each row of YthjdejjejlhioaaGreatDoorRows.lean that lists a variable, with what it lists TIED to the program's text (the seventh form; the later family's looks); each row that meets fmt, with fmt's text TOLD by the authors' own Lean function (tested against real Go, not proved from fmt's source: count such statements apart). THE CARD IS WHAT COUNTS. Prove the row's statement (the work); the ties are given (YthjdejjejlhioaaGreatDoorTie.lean); close each card by the builder's one call (the guide's Derived/Test/ToyasCard.lean, 'card_holds'). Laid BY PROGRAM, IN A SANDBOX (cutbox-door.mjs). By AI agents, Wed Nov 11 2026. No macro, syntax, notation, axiom, sorry.
-/
import Derived.Test.YthjdejjejlhioaaGreatDoorRows
import GoSem.ClaimSeven
namespace Go.Proofs.YthjdejjejlhioaaGreatDoor
namespace Rows

/-- THE TIED CARD OF 'reelkeeperlaw17.StripBack'. -/
def stripBackCard : Claim7 := { stood := { row := stripBackRow, standIns := [], harness := (true, "da24df820151cd05d91cd43e705f93d58ef86167e8a3fbfa3d535a4bec249d79"), looks := true }, kinds := [], alts := [], laidByText := true, laidKinds := [.data, .data, .data], laidTests := true, laidLooks := .later }
def StripBackCardSaid : Prop := Claim7.holds Tryz.pinned (.plain (OpenSpec.ofChange stripBackSpec)) stripBackCard

/-- THE TIED CARD OF 'reelkeeperlaw17.StripFew'. -/
def stripFewCard : Claim7 := { stood := { row := stripFewRow, standIns := [], harness := (true, "da24df820151cd05d91cd43e705f93d58ef86167e8a3fbfa3d535a4bec249d79"), looks := true }, kinds := [], alts := [], laidByText := true, laidKinds := [.data, .data, .data], laidTests := true, laidLooks := .later }
def StripFewCardSaid : Prop := Claim7.holds Tryz.pinned (.plain (OpenSpec.ofChange stripFewSpec)) stripFewCard

/-- THE TIED CARD OF 'reelkeeperlaw17.StripOther'. -/
def stripOtherCard : Claim7 := { stood := { row := stripOtherRow, standIns := [], harness := (true, "da24df820151cd05d91cd43e705f93d58ef86167e8a3fbfa3d535a4bec249d79"), looks := true }, kinds := [], alts := [], laidByText := true, laidKinds := [.data, .data, .data], laidTests := true, laidLooks := .later }
def StripOtherCardSaid : Prop := Claim7.holds Tryz.pinned (.plain (OpenSpec.ofChange stripOtherSpec)) stripOtherCard

/-- THE TIED CARD OF 'reelkeeperlaw17.StripLeft'. -/
def stripLeftCard : Claim7 := { stood := { row := stripLeftRow, standIns := [], harness := (true, "da24df820151cd05d91cd43e705f93d58ef86167e8a3fbfa3d535a4bec249d79"), looks := true }, kinds := [], alts := [], laidByText := true, laidKinds := [.data, .data, .data], laidTests := true, laidLooks := .later }
def StripLeftCardSaid : Prop := Claim7.holds Tryz.pinned (.plain (OpenSpec.ofChange stripLeftSpec)) stripLeftCard

/-- THE TIED CARD OF 'reelkeeperlaw17.StripSpoilt'. -/
def stripSpoiltCard : Claim7 := { stood := { row := stripSpoiltRow, standIns := [], harness := (true, "da24df820151cd05d91cd43e705f93d58ef86167e8a3fbfa3d535a4bec249d79"), looks := true }, kinds := [], alts := [], laidByText := true, laidKinds := [.data, .data, .data], laidTests := true, laidLooks := .later }
def StripSpoiltCardSaid : Prop := Claim7.holds Tryz.pinned (.plain (OpenSpec.ofChange stripSpoiltSpec)) stripSpoiltCard

/-- THE SECOND FORM's CARD OF 'reelkeeperlaw17.StripBack'. -/
def stripBackUptoCard : Claim7 := { stood := { row := stripBackUptoRow, standIns := [], harness := (true, "da24df820151cd05d91cd43e705f93d58ef86167e8a3fbfa3d535a4bec249d79"), looks := true }, kinds := [], alts := [], laidByText := true, laidKinds := [.data, .data, .data], laidTests := true, laidLooks := .later }
def StripBackUptoCardSaid : Prop := Claim7.holds Tryz.pinned (.plain (OpenSpec.upto stripBackSpec)) stripBackUptoCard

/-- THE SECOND FORM's CARD OF 'reelkeeperlaw17.StripFew'. -/
def stripFewUptoCard : Claim7 := { stood := { row := stripFewUptoRow, standIns := [], harness := (true, "da24df820151cd05d91cd43e705f93d58ef86167e8a3fbfa3d535a4bec249d79"), looks := true }, kinds := [], alts := [], laidByText := true, laidKinds := [.data, .data, .data], laidTests := true, laidLooks := .later }
def StripFewUptoCardSaid : Prop := Claim7.holds Tryz.pinned (.plain (OpenSpec.upto stripFewSpec)) stripFewUptoCard

/-- THE SECOND FORM's CARD OF 'reelkeeperlaw17.StripOther'. -/
def stripOtherUptoCard : Claim7 := { stood := { row := stripOtherUptoRow, standIns := [], harness := (true, "da24df820151cd05d91cd43e705f93d58ef86167e8a3fbfa3d535a4bec249d79"), looks := true }, kinds := [], alts := [], laidByText := true, laidKinds := [.data, .data, .data], laidTests := true, laidLooks := .later }
def StripOtherUptoCardSaid : Prop := Claim7.holds Tryz.pinned (.plain (OpenSpec.upto stripOtherSpec)) stripOtherUptoCard

/-- THE SECOND FORM's CARD OF 'reelkeeperlaw17.StripLeft'. -/
def stripLeftUptoCard : Claim7 := { stood := { row := stripLeftUptoRow, standIns := [], harness := (true, "da24df820151cd05d91cd43e705f93d58ef86167e8a3fbfa3d535a4bec249d79"), looks := true }, kinds := [], alts := [], laidByText := true, laidKinds := [.data, .data, .data], laidTests := true, laidLooks := .later }
def StripLeftUptoCardSaid : Prop := Claim7.holds Tryz.pinned (.plain (OpenSpec.upto stripLeftSpec)) stripLeftUptoCard

/-- THE SECOND FORM's CARD OF 'reelkeeperlaw17.StripSpoilt'. -/
def stripSpoiltUptoCard : Claim7 := { stood := { row := stripSpoiltUptoRow, standIns := [], harness := (true, "da24df820151cd05d91cd43e705f93d58ef86167e8a3fbfa3d535a4bec249d79"), looks := true }, kinds := [], alts := [], laidByText := true, laidKinds := [.data, .data, .data], laidTests := true, laidLooks := .later }
def StripSpoiltUptoCardSaid : Prop := Claim7.holds Tryz.pinned (.plain (OpenSpec.upto stripSpoiltSpec)) stripSpoiltUptoCard
end Rows
end Go.Proofs.YthjdejjejlhioaaGreatDoor
