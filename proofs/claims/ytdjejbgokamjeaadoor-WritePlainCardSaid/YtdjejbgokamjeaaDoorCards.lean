/-
  DERIVED. GIVEN WITH THE SEED: THE CARDS: each row of YtdjejbgokamjeaaDoorRows.lean that lists a variable, with what it lists TIED to the program's text (the seventh form; the later family's looks); each row that meets fmt, with fmt's text TOLD by the authors' own Lean function (tested against real Go, not proved from fmt's source: count such statements apart). THE CARD IS WHAT COUNTS. Prove the row's statement (the work); the ties are given (YtdjejbgokamjeaaDoorTie.lean); close each card by the builder's one call (the guide's Derived/Test/ToyasCard.lean, 'card_holds'). Laid BY PROGRAM, IN A SANDBOX (cutbox-door.mjs). By AI agents, Wed Nov 11 2026. No macro, syntax, notation, axiom, sorry.
-/
import Derived.Test.YtdjejbgokamjeaaDoorRows
import GoSem.ClaimSeven
namespace Go.Proofs.YtdjejbgokamjeaaDoor
namespace Rows

/-- THE TIED CARD OF 'spinneylaw07.WriteTexts'. -/
def writeTextsCard : Claim7 := { stood := { row := writeTextsRow, standIns := [], harness := (true, "4fb529768067bdf3c7e0eef7ac0d759bdd7d72139358189891224611e492d83f"), looks := false }, kinds := [], alts := [], laidByText := true, laidKinds := [.data, .data, .data, .data, .pinned], laidTests := true, laidLooks := .later }
def WriteTextsCardSaid : Prop := Claim7.holds Tryd.pinned (.plain (OpenSpec.ofChange writeTextsSpec)) writeTextsCard

/-- THE TIED CARD OF 'spinneylaw07.WritePlain'. -/
def writePlainCard : Claim7 := { stood := { row := writePlainRow, standIns := [], harness := (true, "4fb529768067bdf3c7e0eef7ac0d759bdd7d72139358189891224611e492d83f"), looks := false }, kinds := [], alts := [], laidByText := true, laidKinds := [.data, .data, .data, .data, .pinned], laidTests := true, laidLooks := .later }
def WritePlainCardSaid : Prop := Claim7.holds Tryd.pinned (.plain (OpenSpec.ofChange writePlainSpec)) writePlainCard

/-- THE SECOND FORM's CARD OF 'spinneylaw07.WriteTexts'. -/
def writeTextsUptoCard : Claim7 := { stood := { row := writeTextsUptoRow, standIns := [], harness := (true, "4fb529768067bdf3c7e0eef7ac0d759bdd7d72139358189891224611e492d83f"), looks := false }, kinds := [], alts := [], laidByText := true, laidKinds := [.data, .data, .data, .data, .pinned], laidTests := true, laidLooks := .later }
def WriteTextsUptoCardSaid : Prop := Claim7.holds Tryd.pinned (.plain (OpenSpec.upto writeTextsSpec)) writeTextsUptoCard

/-- THE SECOND FORM's CARD OF 'spinneylaw07.WritePlain'. -/
def writePlainUptoCard : Claim7 := { stood := { row := writePlainUptoRow, standIns := [], harness := (true, "4fb529768067bdf3c7e0eef7ac0d759bdd7d72139358189891224611e492d83f"), looks := false }, kinds := [], alts := [], laidByText := true, laidKinds := [.data, .data, .data, .data, .pinned], laidTests := true, laidLooks := .later }
def WritePlainUptoCardSaid : Prop := Claim7.holds Tryd.pinned (.plain (OpenSpec.upto writePlainSpec)) writePlainUptoCard
end Rows
end Go.Proofs.YtdjejbgokamjeaaDoor
