/-
  DERIVED. GIVEN WITH THE SEED: THE CARDS: each row of YtinefdlkajnomaaGreatDoorRows.lean that lists a variable, with what it lists TIED to the program's text (the seventh form; the later family's looks); each row that meets fmt, with fmt's text TOLD by the authors' own Lean function (tested against real Go, not proved from fmt's source: count such statements apart). THE CARD IS WHAT COUNTS. Prove the row's statement (the work); the ties are given (YtinefdlkajnomaaGreatDoorTie.lean); close each card by the builder's one call (the guide's Derived/Test/ToyasCard.lean, 'card_holds'). Laid BY PROGRAM, IN A SANDBOX (cutbox-door.mjs). By AI agents, Wed Nov 11 2026. No macro, syntax, notation, axiom, sorry.
-/
import Derived.Test.YtinefdlkajnomaaGreatDoorRows
import GoSem.ClaimSeven
namespace Go.Proofs.YtinefdlkajnomaaGreatDoor
namespace Rows

/-- THE TIED CARD OF 'spinneylaw08.ClauseNames'. -/
def clauseNamesCard : Claim7 := { stood := { row := clauseNamesRow, standIns := [], harness := (true, "c5b57dcc523e174f09d107a0a84ca1a786afedc15f4b3c01f9efc7b3ad14df69"), looks := true }, kinds := [], alts := [], laidByText := true, laidKinds := [.data, .pinned], laidTests := true, laidLooks := .later }
def ClauseNamesCardSaid : Prop := Claim7.holds Tryz.pinned (.plain (OpenSpec.ofChange clauseNamesSpec)) clauseNamesCard

/-- THE TIED CARD OF 'spinneylaw08.ClauseMakes'. -/
def clauseMakesCard : Claim7 := { stood := { row := clauseMakesRow, standIns := [], harness := (true, "c5b57dcc523e174f09d107a0a84ca1a786afedc15f4b3c01f9efc7b3ad14df69"), looks := true }, kinds := [], alts := [], laidByText := true, laidKinds := [.data, .pinned], laidTests := true, laidLooks := .later }
def ClauseMakesCardSaid : Prop := Claim7.holds Tryz.pinned (.plain (OpenSpec.ofChange clauseMakesSpec)) clauseMakesCard

/-- THE TIED CARD OF 'spinneylaw08.ClausePrograms'. -/
def clauseProgramsCard : Claim7 := { stood := { row := clauseProgramsRow, standIns := [], harness := (true, "c5b57dcc523e174f09d107a0a84ca1a786afedc15f4b3c01f9efc7b3ad14df69"), looks := true }, kinds := [], alts := [], laidByText := true, laidKinds := [.data, .pinned], laidTests := true, laidLooks := .later }
def ClauseProgramsCardSaid : Prop := Claim7.holds Tryz.pinned (.plain (OpenSpec.ofChange clauseProgramsSpec)) clauseProgramsCard

/-- THE TIED CARD OF 'spinneylaw08.ClauseFinds'. -/
def clauseFindsCard : Claim7 := { stood := { row := clauseFindsRow, standIns := [], harness := (true, "c5b57dcc523e174f09d107a0a84ca1a786afedc15f4b3c01f9efc7b3ad14df69"), looks := true }, kinds := [], alts := [], laidByText := true, laidKinds := [.data, .pinned], laidTests := true, laidLooks := .later }
def ClauseFindsCardSaid : Prop := Claim7.holds Tryz.pinned (.plain (OpenSpec.ofChange clauseFindsSpec)) clauseFindsCard

/-- THE TIED CARD OF 'spinneylaw08.ClauseBack'. -/
def clauseBackCard : Claim7 := { stood := { row := clauseBackRow, standIns := [], harness := (true, "c5b57dcc523e174f09d107a0a84ca1a786afedc15f4b3c01f9efc7b3ad14df69"), looks := true }, kinds := [], alts := [], laidByText := true, laidKinds := [.data, .pinned], laidTests := true, laidLooks := .later }
def ClauseBackCardSaid : Prop := Claim7.holds Tryz.pinned (.plain (OpenSpec.ofChange clauseBackSpec)) clauseBackCard

/-- THE TIED CARD OF 'spinneylaw08.ClauseJoins'. -/
def clauseJoinsCard : Claim7 := { stood := { row := clauseJoinsRow, standIns := [], harness := (true, "c5b57dcc523e174f09d107a0a84ca1a786afedc15f4b3c01f9efc7b3ad14df69"), looks := true }, kinds := [], alts := [], laidByText := true, laidKinds := [.data, .pinned], laidTests := true, laidLooks := .later }
def ClauseJoinsCardSaid : Prop := Claim7.holds Tryz.pinned (.plain (OpenSpec.ofChange clauseJoinsSpec)) clauseJoinsCard

/-- THE SECOND FORM's CARD OF 'spinneylaw08.ClauseNames'. -/
def clauseNamesUptoCard : Claim7 := { stood := { row := clauseNamesUptoRow, standIns := [], harness := (true, "c5b57dcc523e174f09d107a0a84ca1a786afedc15f4b3c01f9efc7b3ad14df69"), looks := true }, kinds := [], alts := [], laidByText := true, laidKinds := [.data, .pinned], laidTests := true, laidLooks := .later }
def ClauseNamesUptoCardSaid : Prop := Claim7.holds Tryz.pinned (.plain (OpenSpec.upto clauseNamesSpec)) clauseNamesUptoCard

/-- THE SECOND FORM's CARD OF 'spinneylaw08.ClauseMakes'. -/
def clauseMakesUptoCard : Claim7 := { stood := { row := clauseMakesUptoRow, standIns := [], harness := (true, "c5b57dcc523e174f09d107a0a84ca1a786afedc15f4b3c01f9efc7b3ad14df69"), looks := true }, kinds := [], alts := [], laidByText := true, laidKinds := [.data, .pinned], laidTests := true, laidLooks := .later }
def ClauseMakesUptoCardSaid : Prop := Claim7.holds Tryz.pinned (.plain (OpenSpec.upto clauseMakesSpec)) clauseMakesUptoCard

/-- THE SECOND FORM's CARD OF 'spinneylaw08.ClausePrograms'. -/
def clauseProgramsUptoCard : Claim7 := { stood := { row := clauseProgramsUptoRow, standIns := [], harness := (true, "c5b57dcc523e174f09d107a0a84ca1a786afedc15f4b3c01f9efc7b3ad14df69"), looks := true }, kinds := [], alts := [], laidByText := true, laidKinds := [.data, .pinned], laidTests := true, laidLooks := .later }
def ClauseProgramsUptoCardSaid : Prop := Claim7.holds Tryz.pinned (.plain (OpenSpec.upto clauseProgramsSpec)) clauseProgramsUptoCard

/-- THE SECOND FORM's CARD OF 'spinneylaw08.ClauseFinds'. -/
def clauseFindsUptoCard : Claim7 := { stood := { row := clauseFindsUptoRow, standIns := [], harness := (true, "c5b57dcc523e174f09d107a0a84ca1a786afedc15f4b3c01f9efc7b3ad14df69"), looks := true }, kinds := [], alts := [], laidByText := true, laidKinds := [.data, .pinned], laidTests := true, laidLooks := .later }
def ClauseFindsUptoCardSaid : Prop := Claim7.holds Tryz.pinned (.plain (OpenSpec.upto clauseFindsSpec)) clauseFindsUptoCard

/-- THE SECOND FORM's CARD OF 'spinneylaw08.ClauseBack'. -/
def clauseBackUptoCard : Claim7 := { stood := { row := clauseBackUptoRow, standIns := [], harness := (true, "c5b57dcc523e174f09d107a0a84ca1a786afedc15f4b3c01f9efc7b3ad14df69"), looks := true }, kinds := [], alts := [], laidByText := true, laidKinds := [.data, .pinned], laidTests := true, laidLooks := .later }
def ClauseBackUptoCardSaid : Prop := Claim7.holds Tryz.pinned (.plain (OpenSpec.upto clauseBackSpec)) clauseBackUptoCard

/-- THE SECOND FORM's CARD OF 'spinneylaw08.ClauseJoins'. -/
def clauseJoinsUptoCard : Claim7 := { stood := { row := clauseJoinsUptoRow, standIns := [], harness := (true, "c5b57dcc523e174f09d107a0a84ca1a786afedc15f4b3c01f9efc7b3ad14df69"), looks := true }, kinds := [], alts := [], laidByText := true, laidKinds := [.data, .pinned], laidTests := true, laidLooks := .later }
def ClauseJoinsUptoCardSaid : Prop := Claim7.holds Tryz.pinned (.plain (OpenSpec.upto clauseJoinsSpec)) clauseJoinsUptoCard
end Rows
end Go.Proofs.YtinefdlkajnomaaGreatDoor
