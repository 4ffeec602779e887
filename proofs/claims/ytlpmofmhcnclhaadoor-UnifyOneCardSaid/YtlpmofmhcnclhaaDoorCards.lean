/-
  DERIVED. GIVEN WITH THE SEED: THE CARDS: each row of YtlpmofmhcnclhaaDoorRows.lean that lists a variable, with what it lists TIED to the program's text (the seventh form; the later family's looks); each row that meets fmt, with fmt's text TOLD by the authors' own Lean function (tested against real Go, not proved from fmt's source: count such statements apart). THE CARD IS WHAT COUNTS. Prove the row's statement (the work); the ties are given (YtlpmofmhcnclhaaDoorTie.lean); close each card by the builder's one call (the guide's Derived/Test/ToyasCard.lean, 'card_holds'). Laid BY PROGRAM, IN A SANDBOX (cutbox-door.mjs). By AI agents, Wed Nov 11 2026. No macro, syntax, notation, axiom, sorry.
-/
import Derived.Test.YtlpmofmhcnclhaaDoorRows
import GoSem.ClaimSeven
namespace Go.Proofs.YtlpmofmhcnclhaaDoor
namespace Rows

/-- THE TIED CARD OF 'spinneylaw10.UnifyCompares'. -/
def unifyComparesCard : Claim7 := { stood := { row := unifyComparesRow, standIns := [], harness := (true, "59f9f36b6cf948aaadc5fdc17d5519ef7face621a4d80f802de4e76f37023f72"), looks := false }, kinds := [], alts := [], laidByText := true, laidKinds := [.data, .pinned], laidTests := true, laidLooks := .later }
def UnifyComparesCardSaid : Prop := Claim7.holds Tryd.pinned (.plain (OpenSpec.ofChange unifyComparesSpec)) unifyComparesCard

/-- THE TIED CARD OF 'spinneylaw10.UnifyOne'. -/
def unifyOneCard : Claim7 := { stood := { row := unifyOneRow, standIns := [], harness := (true, "59f9f36b6cf948aaadc5fdc17d5519ef7face621a4d80f802de4e76f37023f72"), looks := false }, kinds := [], alts := [], laidByText := true, laidKinds := [.data, .pinned], laidTests := true, laidLooks := .later }
def UnifyOneCardSaid : Prop := Claim7.holds Tryd.pinned (.plain (OpenSpec.ofChange unifyOneSpec)) unifyOneCard

/-- THE TIED CARD OF 'spinneylaw10.UnifyTurns'. -/
def unifyTurnsCard : Claim7 := { stood := { row := unifyTurnsRow, standIns := [], harness := (true, "59f9f36b6cf948aaadc5fdc17d5519ef7face621a4d80f802de4e76f37023f72"), looks := false }, kinds := [], alts := [], laidByText := true, laidKinds := [.data, .pinned], laidTests := true, laidLooks := .later }
def UnifyTurnsCardSaid : Prop := Claim7.holds Tryd.pinned (.plain (OpenSpec.ofChange unifyTurnsSpec)) unifyTurnsCard

/-- THE TIED CARD OF 'spinneylaw10.UnifyShifts'. -/
def unifyShiftsCard : Claim7 := { stood := { row := unifyShiftsRow, standIns := [], harness := (true, "59f9f36b6cf948aaadc5fdc17d5519ef7face621a4d80f802de4e76f37023f72"), looks := false }, kinds := [], alts := [], laidByText := true, laidKinds := [.data, .pinned], laidTests := true, laidLooks := .later }
def UnifyShiftsCardSaid : Prop := Claim7.holds Tryd.pinned (.plain (OpenSpec.ofChange unifyShiftsSpec)) unifyShiftsCard

/-- THE TIED CARD OF 'spinneylaw10.UnifySelf'. -/
def unifySelfCard : Claim7 := { stood := { row := unifySelfRow, standIns := [], harness := (true, "59f9f36b6cf948aaadc5fdc17d5519ef7face621a4d80f802de4e76f37023f72"), looks := false }, kinds := [], alts := [], laidByText := true, laidKinds := [.data, .pinned], laidTests := true, laidLooks := .later }
def UnifySelfCardSaid : Prop := Claim7.holds Tryd.pinned (.plain (OpenSpec.ofChange unifySelfSpec)) unifySelfCard

/-- THE SECOND FORM's CARD OF 'spinneylaw10.UnifyCompares'. -/
def unifyComparesUptoCard : Claim7 := { stood := { row := unifyComparesUptoRow, standIns := [], harness := (true, "59f9f36b6cf948aaadc5fdc17d5519ef7face621a4d80f802de4e76f37023f72"), looks := false }, kinds := [], alts := [], laidByText := true, laidKinds := [.data, .pinned], laidTests := true, laidLooks := .later }
def UnifyComparesUptoCardSaid : Prop := Claim7.holds Tryd.pinned (.plain (OpenSpec.upto unifyComparesSpec)) unifyComparesUptoCard

/-- THE SECOND FORM's CARD OF 'spinneylaw10.UnifyOne'. -/
def unifyOneUptoCard : Claim7 := { stood := { row := unifyOneUptoRow, standIns := [], harness := (true, "59f9f36b6cf948aaadc5fdc17d5519ef7face621a4d80f802de4e76f37023f72"), looks := false }, kinds := [], alts := [], laidByText := true, laidKinds := [.data, .pinned], laidTests := true, laidLooks := .later }
def UnifyOneUptoCardSaid : Prop := Claim7.holds Tryd.pinned (.plain (OpenSpec.upto unifyOneSpec)) unifyOneUptoCard

/-- THE SECOND FORM's CARD OF 'spinneylaw10.UnifyTurns'. -/
def unifyTurnsUptoCard : Claim7 := { stood := { row := unifyTurnsUptoRow, standIns := [], harness := (true, "59f9f36b6cf948aaadc5fdc17d5519ef7face621a4d80f802de4e76f37023f72"), looks := false }, kinds := [], alts := [], laidByText := true, laidKinds := [.data, .pinned], laidTests := true, laidLooks := .later }
def UnifyTurnsUptoCardSaid : Prop := Claim7.holds Tryd.pinned (.plain (OpenSpec.upto unifyTurnsSpec)) unifyTurnsUptoCard

/-- THE SECOND FORM's CARD OF 'spinneylaw10.UnifyShifts'. -/
def unifyShiftsUptoCard : Claim7 := { stood := { row := unifyShiftsUptoRow, standIns := [], harness := (true, "59f9f36b6cf948aaadc5fdc17d5519ef7face621a4d80f802de4e76f37023f72"), looks := false }, kinds := [], alts := [], laidByText := true, laidKinds := [.data, .pinned], laidTests := true, laidLooks := .later }
def UnifyShiftsUptoCardSaid : Prop := Claim7.holds Tryd.pinned (.plain (OpenSpec.upto unifyShiftsSpec)) unifyShiftsUptoCard

/-- THE SECOND FORM's CARD OF 'spinneylaw10.UnifySelf'. -/
def unifySelfUptoCard : Claim7 := { stood := { row := unifySelfUptoRow, standIns := [], harness := (true, "59f9f36b6cf948aaadc5fdc17d5519ef7face621a4d80f802de4e76f37023f72"), looks := false }, kinds := [], alts := [], laidByText := true, laidKinds := [.data, .pinned], laidTests := true, laidLooks := .later }
def UnifySelfUptoCardSaid : Prop := Claim7.holds Tryd.pinned (.plain (OpenSpec.upto unifySelfSpec)) unifySelfUptoCard
end Rows
end Go.Proofs.YtlpmofmhcnclhaaDoor
