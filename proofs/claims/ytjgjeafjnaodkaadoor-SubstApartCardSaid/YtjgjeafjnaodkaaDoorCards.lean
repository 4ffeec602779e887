/-
  DERIVED. GIVEN WITH THE SEED: THE CARDS: each row of YtjgjeafjnaodkaaDoorRows.lean that lists a variable, with what it lists TIED to the program's text (the seventh form; the later family's looks); each row that meets fmt, with fmt's text TOLD by the authors' own Lean function (tested against real Go, not proved from fmt's source: count such statements apart). THE CARD IS WHAT COUNTS. Prove the row's statement (the work); the ties are given (YtjgjeafjnaodkaaDoorTie.lean); close each card by the builder's one call (the guide's Derived/Test/ToyasCard.lean, 'card_holds'). Laid BY PROGRAM, IN A SANDBOX (cutbox-door.mjs). By AI agents, Wed Nov 11 2026. No macro, syntax, notation, axiom, sorry.
-/
import Derived.Test.YtjgjeafjnaodkaaDoorRows
import GoSem.ClaimSeven
namespace Go.Proofs.YtjgjeafjnaodkaaDoor
namespace Rows

/-- THE TIED CARD OF 'spinneylaw09.SubstApart'. -/
def substApartCard : Claim7 := { stood := { row := substApartRow, standIns := [], harness := (true, "aa9ed7270f0c4ef82afe8002d4325ec9bfbfe10b4b57cb95ed2c90a69bff1766"), looks := false }, kinds := [], alts := [], laidByText := true, laidKinds := [.data, .pinned], laidTests := true, laidLooks := .later }
def SubstApartCardSaid : Prop := Claim7.holds Tryd.pinned (.plain (OpenSpec.ofChange substApartSpec)) substApartCard

/-- THE SECOND FORM's CARD OF 'spinneylaw09.SubstApart'. -/
def substApartUptoCard : Claim7 := { stood := { row := substApartUptoRow, standIns := [], harness := (true, "aa9ed7270f0c4ef82afe8002d4325ec9bfbfe10b4b57cb95ed2c90a69bff1766"), looks := false }, kinds := [], alts := [], laidByText := true, laidKinds := [.data, .pinned], laidTests := true, laidLooks := .later }
def SubstApartUptoCardSaid : Prop := Claim7.holds Tryd.pinned (.plain (OpenSpec.upto substApartSpec)) substApartUptoCard
end Rows
end Go.Proofs.YtjgjeafjnaodkaaDoor
