/-
  DERIVED. GIVEN WITH THE SEED: THE CARDS: each row of YtglaoacdenecfaaDoorRows.lean that lists a variable, with what it lists TIED to the program's text (the seventh form; the later family's looks); each row that meets fmt, with fmt's text TOLD by the authors' own Lean function (tested against real Go, not proved from fmt's source: count such statements apart). THE CARD IS WHAT COUNTS. Prove the row's statement (the work); the ties are given (YtglaoacdenecfaaDoorTie.lean); close each card by the builder's one call (the guide's Derived/Test/ToyasCard.lean, 'card_holds'). Laid BY PROGRAM, IN A SANDBOX (cutbox-door.mjs). By AI agents, Wed Nov 11 2026. No macro, syntax, notation, axiom, sorry.
-/
import Derived.Test.YtglaoacdenecfaaDoorRows
import GoSem.ClaimSeven
namespace Go.Proofs.YtglaoacdenecfaaDoor
namespace Rows

/-- THE TIED CARD OF 'spinneylaw05.TokenCuts'. -/
def tokenCutsCard : Claim7 := { stood := { row := tokenCutsRow, standIns := [], harness := (true, "fb0eb4318d6cf84c02518912c5ff9d52961452654eb0f9bda7b892d3d643c9ab"), looks := false }, kinds := [], alts := [], laidByText := true, laidKinds := [.data, .pinned], laidTests := true, laidLooks := .later }
def TokenCutsCardSaid : Prop := Claim7.holds Tryd.pinned (.plain (OpenSpec.ofChange tokenCutsSpec)) tokenCutsCard

/-- THE TIED CARD OF 'spinneylaw05.TokenPlaces'. -/
def tokenPlacesCard : Claim7 := { stood := { row := tokenPlacesRow, standIns := [], harness := (true, "fb0eb4318d6cf84c02518912c5ff9d52961452654eb0f9bda7b892d3d643c9ab"), looks := false }, kinds := [], alts := [], laidByText := true, laidKinds := [.data, .pinned], laidTests := true, laidLooks := .later }
def TokenPlacesCardSaid : Prop := Claim7.holds Tryd.pinned (.plain (OpenSpec.ofChange tokenPlacesSpec)) tokenPlacesCard

/-- THE TIED CARD OF 'spinneylaw05.TokenAtoms'. -/
def tokenAtomsCard : Claim7 := { stood := { row := tokenAtomsRow, standIns := [], harness := (true, "fb0eb4318d6cf84c02518912c5ff9d52961452654eb0f9bda7b892d3d643c9ab"), looks := false }, kinds := [], alts := [], laidByText := true, laidKinds := [.data, .pinned], laidTests := true, laidLooks := .later }
def TokenAtomsCardSaid : Prop := Claim7.holds Tryd.pinned (.plain (OpenSpec.ofChange tokenAtomsSpec)) tokenAtomsCard

/-- THE TIED CARD OF 'spinneylaw05.TokenBlanks'. -/
def tokenBlanksCard : Claim7 := { stood := { row := tokenBlanksRow, standIns := [], harness := (true, "fb0eb4318d6cf84c02518912c5ff9d52961452654eb0f9bda7b892d3d643c9ab"), looks := false }, kinds := [], alts := [], laidByText := true, laidKinds := [.data, .pinned], laidTests := true, laidLooks := .later }
def TokenBlanksCardSaid : Prop := Claim7.holds Tryd.pinned (.plain (OpenSpec.ofChange tokenBlanksSpec)) tokenBlanksCard

/-- THE TIED CARD OF 'spinneylaw05.TokenOwn'. -/
def tokenOwnCard : Claim7 := { stood := { row := tokenOwnRow, standIns := [], harness := (true, "fb0eb4318d6cf84c02518912c5ff9d52961452654eb0f9bda7b892d3d643c9ab"), looks := false }, kinds := [], alts := [], laidByText := true, laidKinds := [.data, .pinned], laidTests := true, laidLooks := .later }
def TokenOwnCardSaid : Prop := Claim7.holds Tryd.pinned (.plain (OpenSpec.ofChange tokenOwnSpec)) tokenOwnCard

/-- THE TIED CARD OF 'spinneylaw05.TokenJoins'. -/
def tokenJoinsCard : Claim7 := { stood := { row := tokenJoinsRow, standIns := [], harness := (true, "fb0eb4318d6cf84c02518912c5ff9d52961452654eb0f9bda7b892d3d643c9ab"), looks := false }, kinds := [], alts := [], laidByText := true, laidKinds := [.data, .pinned], laidTests := true, laidLooks := .later }
def TokenJoinsCardSaid : Prop := Claim7.holds Tryd.pinned (.plain (OpenSpec.ofChange tokenJoinsSpec)) tokenJoinsCard

/-- THE SECOND FORM's CARD OF 'spinneylaw05.TokenCuts'. -/
def tokenCutsUptoCard : Claim7 := { stood := { row := tokenCutsUptoRow, standIns := [], harness := (true, "fb0eb4318d6cf84c02518912c5ff9d52961452654eb0f9bda7b892d3d643c9ab"), looks := false }, kinds := [], alts := [], laidByText := true, laidKinds := [.data, .pinned], laidTests := true, laidLooks := .later }
def TokenCutsUptoCardSaid : Prop := Claim7.holds Tryd.pinned (.plain (OpenSpec.upto tokenCutsSpec)) tokenCutsUptoCard

/-- THE SECOND FORM's CARD OF 'spinneylaw05.TokenPlaces'. -/
def tokenPlacesUptoCard : Claim7 := { stood := { row := tokenPlacesUptoRow, standIns := [], harness := (true, "fb0eb4318d6cf84c02518912c5ff9d52961452654eb0f9bda7b892d3d643c9ab"), looks := false }, kinds := [], alts := [], laidByText := true, laidKinds := [.data, .pinned], laidTests := true, laidLooks := .later }
def TokenPlacesUptoCardSaid : Prop := Claim7.holds Tryd.pinned (.plain (OpenSpec.upto tokenPlacesSpec)) tokenPlacesUptoCard

/-- THE SECOND FORM's CARD OF 'spinneylaw05.TokenAtoms'. -/
def tokenAtomsUptoCard : Claim7 := { stood := { row := tokenAtomsUptoRow, standIns := [], harness := (true, "fb0eb4318d6cf84c02518912c5ff9d52961452654eb0f9bda7b892d3d643c9ab"), looks := false }, kinds := [], alts := [], laidByText := true, laidKinds := [.data, .pinned], laidTests := true, laidLooks := .later }
def TokenAtomsUptoCardSaid : Prop := Claim7.holds Tryd.pinned (.plain (OpenSpec.upto tokenAtomsSpec)) tokenAtomsUptoCard

/-- THE SECOND FORM's CARD OF 'spinneylaw05.TokenBlanks'. -/
def tokenBlanksUptoCard : Claim7 := { stood := { row := tokenBlanksUptoRow, standIns := [], harness := (true, "fb0eb4318d6cf84c02518912c5ff9d52961452654eb0f9bda7b892d3d643c9ab"), looks := false }, kinds := [], alts := [], laidByText := true, laidKinds := [.data, .pinned], laidTests := true, laidLooks := .later }
def TokenBlanksUptoCardSaid : Prop := Claim7.holds Tryd.pinned (.plain (OpenSpec.upto tokenBlanksSpec)) tokenBlanksUptoCard

/-- THE SECOND FORM's CARD OF 'spinneylaw05.TokenOwn'. -/
def tokenOwnUptoCard : Claim7 := { stood := { row := tokenOwnUptoRow, standIns := [], harness := (true, "fb0eb4318d6cf84c02518912c5ff9d52961452654eb0f9bda7b892d3d643c9ab"), looks := false }, kinds := [], alts := [], laidByText := true, laidKinds := [.data, .pinned], laidTests := true, laidLooks := .later }
def TokenOwnUptoCardSaid : Prop := Claim7.holds Tryd.pinned (.plain (OpenSpec.upto tokenOwnSpec)) tokenOwnUptoCard

/-- THE SECOND FORM's CARD OF 'spinneylaw05.TokenJoins'. -/
def tokenJoinsUptoCard : Claim7 := { stood := { row := tokenJoinsUptoRow, standIns := [], harness := (true, "fb0eb4318d6cf84c02518912c5ff9d52961452654eb0f9bda7b892d3d643c9ab"), looks := false }, kinds := [], alts := [], laidByText := true, laidKinds := [.data, .pinned], laidTests := true, laidLooks := .later }
def TokenJoinsUptoCardSaid : Prop := Claim7.holds Tryd.pinned (.plain (OpenSpec.upto tokenJoinsSpec)) tokenJoinsUptoCard
end Rows
end Go.Proofs.YtglaoacdenecfaaDoor
