/-
  DERIVED. GIVEN WITH THE SEED: THE CARDS: each row of YtcelogngamijlabDoorRows.lean that lists a variable, with what it lists TIED to the program's text (the seventh form; the later family's looks); each row that meets fmt, with fmt's text TOLD by the authors' own Lean function (tested against real Go, not proved from fmt's source: count such statements apart). THE CARD IS WHAT COUNTS. Prove the row's statement (the work); the ties are given (YtcelogngamijlabDoorTie.lean); close each card by the builder's one call (the guide's Derived/Test/ToyasCard.lean, 'card_holds'). Laid BY PROGRAM, IN A SANDBOX (cutbox-door.mjs). By AI agents, Wed Nov 11 2026. No macro, syntax, notation, axiom, sorry.
-/
import Derived.Test.YtcelogngamijlabDoorRows
import GoSem.ClaimSeven
namespace Go.Proofs.YtcelogngamijlabDoor
namespace Rows

/-- THE TIED CARD OF 'spinneylaw01.NumTurns'. -/
def numTurnsCard : Claim7 := { stood := { row := numTurnsRow, standIns := [], harness := (true, "ceeb3cfef0d5e0d208ffaa9a0ce1a2110427c2b2a9038fedc8983e819373fa39"), looks := false }, kinds := [], alts := [], laidByText := true, laidKinds := [.data, .data, .data], laidTests := true, laidLooks := .later }
def NumTurnsCardSaid : Prop := Claim7.holds Tryd.pinned (.plain (OpenSpec.ofChange numTurnsSpec)) numTurnsCard

/-- THE TIED CARD OF 'spinneylaw01.NumSpreads'. -/
def numSpreadsCard : Claim7 := { stood := { row := numSpreadsRow, standIns := [], harness := (true, "ceeb3cfef0d5e0d208ffaa9a0ce1a2110427c2b2a9038fedc8983e819373fa39"), looks := false }, kinds := [], alts := [], laidByText := true, laidKinds := [.data, .data, .data], laidTests := true, laidLooks := .later }
def NumSpreadsCardSaid : Prop := Claim7.holds Tryd.pinned (.plain (OpenSpec.ofChange numSpreadsSpec)) numSpreadsCard

/-- THE SECOND FORM's CARD OF 'spinneylaw01.NumTurns'. -/
def numTurnsUptoCard : Claim7 := { stood := { row := numTurnsUptoRow, standIns := [], harness := (true, "ceeb3cfef0d5e0d208ffaa9a0ce1a2110427c2b2a9038fedc8983e819373fa39"), looks := false }, kinds := [], alts := [], laidByText := true, laidKinds := [.data, .data, .data], laidTests := true, laidLooks := .later }
def NumTurnsUptoCardSaid : Prop := Claim7.holds Tryd.pinned (.plain (OpenSpec.upto numTurnsSpec)) numTurnsUptoCard

/-- THE SECOND FORM's CARD OF 'spinneylaw01.NumSpreads'. -/
def numSpreadsUptoCard : Claim7 := { stood := { row := numSpreadsUptoRow, standIns := [], harness := (true, "ceeb3cfef0d5e0d208ffaa9a0ce1a2110427c2b2a9038fedc8983e819373fa39"), looks := false }, kinds := [], alts := [], laidByText := true, laidKinds := [.data, .data, .data], laidTests := true, laidLooks := .later }
def NumSpreadsUptoCardSaid : Prop := Claim7.holds Tryd.pinned (.plain (OpenSpec.upto numSpreadsSpec)) numSpreadsUptoCard
end Rows
end Go.Proofs.YtcelogngamijlabDoor
