/-
  DERIVED. GIVEN WITH THE SEED: THE CARDS: each row of YtlbdocdjijhkbaaGreatDoorRows.lean that lists a variable, with what it lists TIED to the program's text (the seventh form; the later family's looks); each row that meets fmt, with fmt's text TOLD by the authors' own Lean function (tested against real Go, not proved from fmt's source: count such statements apart). THE CARD IS WHAT COUNTS. Prove the row's statement (the work); the ties are given (YtlbdocdjijhkbaaGreatDoorTie.lean); close each card by the builder's one call (the guide's Derived/Test/ToyasCard.lean, 'card_holds'). Laid BY PROGRAM, IN A SANDBOX (cutbox-door.mjs). By AI agents, Wed Nov 11 2026. No macro, syntax, notation, axiom, sorry.
-/
import Derived.Test.YtlbdocdjijhkbaaGreatDoorRows
import GoSem.ClaimSeven
namespace Go.Proofs.YtlbdocdjijhkbaaGreatDoor
namespace Rows

/-- THE TIED CARD OF 'spinneylaw06.ReadPrograms'. -/
def readProgramsCard : Claim7 := { stood := { row := readProgramsRow, standIns := [], harness := (true, "2b7d4da32f20f66a42b4546ebd7194a24151215e4e47b2ada6a09fcfb5c0ed02"), looks := true }, kinds := [], alts := [], laidByText := true, laidKinds := [.data, .pinned], laidTests := true, laidLooks := .later }
def ReadProgramsCardSaid : Prop := Claim7.holds Tryz.pinned (.plain (OpenSpec.ofChange readProgramsSpec)) readProgramsCard

/-- THE TIED CARD OF 'spinneylaw06.ReadQueries'. -/
def readQueriesCard : Claim7 := { stood := { row := readQueriesRow, standIns := [], harness := (true, "2b7d4da32f20f66a42b4546ebd7194a24151215e4e47b2ada6a09fcfb5c0ed02"), looks := true }, kinds := [], alts := [], laidByText := true, laidKinds := [.data, .pinned], laidTests := true, laidLooks := .later }
def ReadQueriesCardSaid : Prop := Claim7.holds Tryz.pinned (.plain (OpenSpec.ofChange readQueriesSpec)) readQueriesCard

/-- THE TIED CARD OF 'spinneylaw06.ReadJoins'. -/
def readJoinsCard : Claim7 := { stood := { row := readJoinsRow, standIns := [], harness := (true, "2b7d4da32f20f66a42b4546ebd7194a24151215e4e47b2ada6a09fcfb5c0ed02"), looks := true }, kinds := [], alts := [], laidByText := true, laidKinds := [.data, .pinned], laidTests := true, laidLooks := .later }
def ReadJoinsCardSaid : Prop := Claim7.holds Tryz.pinned (.plain (OpenSpec.ofChange readJoinsSpec)) readJoinsCard

/-- THE TIED CARD OF 'spinneylaw06.ReadBrackets'. -/
def readBracketsCard : Claim7 := { stood := { row := readBracketsRow, standIns := [], harness := (true, "2b7d4da32f20f66a42b4546ebd7194a24151215e4e47b2ada6a09fcfb5c0ed02"), looks := true }, kinds := [], alts := [], laidByText := true, laidKinds := [.data, .pinned], laidTests := true, laidLooks := .later }
def ReadBracketsCardSaid : Prop := Claim7.holds Tryz.pinned (.plain (OpenSpec.ofChange readBracketsSpec)) readBracketsCard

/-- THE TIED CARD OF 'spinneylaw06.ReadNumbers'. -/
def readNumbersCard : Claim7 := { stood := { row := readNumbersRow, standIns := [], harness := (true, "2b7d4da32f20f66a42b4546ebd7194a24151215e4e47b2ada6a09fcfb5c0ed02"), looks := true }, kinds := [], alts := [], laidByText := true, laidKinds := [.data, .pinned], laidTests := true, laidLooks := .later }
def ReadNumbersCardSaid : Prop := Claim7.holds Tryz.pinned (.plain (OpenSpec.ofChange readNumbersSpec)) readNumbersCard

/-- THE TIED CARD OF 'spinneylaw06.ReadAtoms'. -/
def readAtomsCard : Claim7 := { stood := { row := readAtomsRow, standIns := [], harness := (true, "2b7d4da32f20f66a42b4546ebd7194a24151215e4e47b2ada6a09fcfb5c0ed02"), looks := true }, kinds := [], alts := [], laidByText := true, laidKinds := [.data, .pinned], laidTests := true, laidLooks := .later }
def ReadAtomsCardSaid : Prop := Claim7.holds Tryz.pinned (.plain (OpenSpec.ofChange readAtomsSpec)) readAtomsCard

/-- THE TIED CARD OF 'spinneylaw06.ReadLists'. -/
def readListsCard : Claim7 := { stood := { row := readListsRow, standIns := [], harness := (true, "2b7d4da32f20f66a42b4546ebd7194a24151215e4e47b2ada6a09fcfb5c0ed02"), looks := true }, kinds := [], alts := [], laidByText := true, laidKinds := [.data, .pinned], laidTests := true, laidLooks := .later }
def ReadListsCardSaid : Prop := Claim7.holds Tryz.pinned (.plain (OpenSpec.ofChange readListsSpec)) readListsCard

/-- THE SECOND FORM's CARD OF 'spinneylaw06.ReadPrograms'. -/
def readProgramsUptoCard : Claim7 := { stood := { row := readProgramsUptoRow, standIns := [], harness := (true, "2b7d4da32f20f66a42b4546ebd7194a24151215e4e47b2ada6a09fcfb5c0ed02"), looks := true }, kinds := [], alts := [], laidByText := true, laidKinds := [.data, .pinned], laidTests := true, laidLooks := .later }
def ReadProgramsUptoCardSaid : Prop := Claim7.holds Tryz.pinned (.plain (OpenSpec.upto readProgramsSpec)) readProgramsUptoCard

/-- THE SECOND FORM's CARD OF 'spinneylaw06.ReadQueries'. -/
def readQueriesUptoCard : Claim7 := { stood := { row := readQueriesUptoRow, standIns := [], harness := (true, "2b7d4da32f20f66a42b4546ebd7194a24151215e4e47b2ada6a09fcfb5c0ed02"), looks := true }, kinds := [], alts := [], laidByText := true, laidKinds := [.data, .pinned], laidTests := true, laidLooks := .later }
def ReadQueriesUptoCardSaid : Prop := Claim7.holds Tryz.pinned (.plain (OpenSpec.upto readQueriesSpec)) readQueriesUptoCard

/-- THE SECOND FORM's CARD OF 'spinneylaw06.ReadJoins'. -/
def readJoinsUptoCard : Claim7 := { stood := { row := readJoinsUptoRow, standIns := [], harness := (true, "2b7d4da32f20f66a42b4546ebd7194a24151215e4e47b2ada6a09fcfb5c0ed02"), looks := true }, kinds := [], alts := [], laidByText := true, laidKinds := [.data, .pinned], laidTests := true, laidLooks := .later }
def ReadJoinsUptoCardSaid : Prop := Claim7.holds Tryz.pinned (.plain (OpenSpec.upto readJoinsSpec)) readJoinsUptoCard

/-- THE SECOND FORM's CARD OF 'spinneylaw06.ReadBrackets'. -/
def readBracketsUptoCard : Claim7 := { stood := { row := readBracketsUptoRow, standIns := [], harness := (true, "2b7d4da32f20f66a42b4546ebd7194a24151215e4e47b2ada6a09fcfb5c0ed02"), looks := true }, kinds := [], alts := [], laidByText := true, laidKinds := [.data, .pinned], laidTests := true, laidLooks := .later }
def ReadBracketsUptoCardSaid : Prop := Claim7.holds Tryz.pinned (.plain (OpenSpec.upto readBracketsSpec)) readBracketsUptoCard

/-- THE SECOND FORM's CARD OF 'spinneylaw06.ReadNumbers'. -/
def readNumbersUptoCard : Claim7 := { stood := { row := readNumbersUptoRow, standIns := [], harness := (true, "2b7d4da32f20f66a42b4546ebd7194a24151215e4e47b2ada6a09fcfb5c0ed02"), looks := true }, kinds := [], alts := [], laidByText := true, laidKinds := [.data, .pinned], laidTests := true, laidLooks := .later }
def ReadNumbersUptoCardSaid : Prop := Claim7.holds Tryz.pinned (.plain (OpenSpec.upto readNumbersSpec)) readNumbersUptoCard

/-- THE SECOND FORM's CARD OF 'spinneylaw06.ReadAtoms'. -/
def readAtomsUptoCard : Claim7 := { stood := { row := readAtomsUptoRow, standIns := [], harness := (true, "2b7d4da32f20f66a42b4546ebd7194a24151215e4e47b2ada6a09fcfb5c0ed02"), looks := true }, kinds := [], alts := [], laidByText := true, laidKinds := [.data, .pinned], laidTests := true, laidLooks := .later }
def ReadAtomsUptoCardSaid : Prop := Claim7.holds Tryz.pinned (.plain (OpenSpec.upto readAtomsSpec)) readAtomsUptoCard

/-- THE SECOND FORM's CARD OF 'spinneylaw06.ReadLists'. -/
def readListsUptoCard : Claim7 := { stood := { row := readListsUptoRow, standIns := [], harness := (true, "2b7d4da32f20f66a42b4546ebd7194a24151215e4e47b2ada6a09fcfb5c0ed02"), looks := true }, kinds := [], alts := [], laidByText := true, laidKinds := [.data, .pinned], laidTests := true, laidLooks := .later }
def ReadListsUptoCardSaid : Prop := Claim7.holds Tryz.pinned (.plain (OpenSpec.upto readListsSpec)) readListsUptoCard
end Rows
end Go.Proofs.YtlbdocdjijhkbaaGreatDoor
