/-
  NARROWER THAN 'FOR EVERY INPUT', by the rows' own cells (each row's printed sentence says how): ArithValues: loops · ArithHolds: loops · ArithPairs: loops.
  DERIVED. THE GIVEN ROWS OF THIS SEAT. 4 by the template 'for every input the law returns true; each argument reads behind the call as it read before'; 0 by the template 'total and deterministic' (their statements: YtpmohibhdnmjlaaTotals.lean).
  GIVEN WITH THE SEED: the statements are not yours to turn. If you find one false, say at which input.
  Laid BY PROGRAM, IN A SANDBOX (cutbox-rows.mjs): the forced cells as the released guide's own fill.sh prints them over the translation 71e652a1bd4f9a1b… (all of the seat's roots in one cut). By AI agents, Wed Nov 11 2026. No macro, syntax, notation, axiom, sorry.
-/
import Derived.Test.YtpmohibhdnmjlaaChecked
import GoSem.Claim
import GoSem.ClaimJoined
import GoSem.ClaimMapViews
import Derived.JoinedTies
import Derived.KernelRfl
namespace Go.Proofs.Ytpmohibhdnmjlaa
/- THE CELL 'sum', in the pinned program and in every row, IS THE sha256 OF THE DUMP (.gsa) THAT YtpmohibhdnmjlaaProg.lean LOADS. Nothing in Lean hashes anything: it is a label: what it is worth is what the hold of that sum in a sandbox is worth. -/
noncomputable def Try.pinned : Pinned := { name := "ytpmohibhdnmjlaa", sum := "71e652a1bd4f9a1b34dd384d16ca3a52b7245446f4b0599fc1372d5d5813e841", checked := Try.checked }
namespace Rows
def none {H : Type} : Left H := { results := [], args := [] }

/-- 'spinneylaw11.ArithValues': WHATEVER THE INPUT: true; the input reads as it did. -/
def arithValuesSpec : ChangeSpec := { name := "arithValues", fn := fun _ => fun
  | [d1, d2] => { results := [.lit (.bool true)], args := [d1, d2] }
  | _ => none }
def arithValuesRow : OpenClaim := { program := "ytpmohibhdnmjlaa", sum := "71e652a1bd4f9a1b34dd384d16ca3a52b7245446f4b0599fc1372d5d5813e841", func := "spinney/spinneylaw11.ArithValues", spec := "arithValues", unfollowed := true, recurses := true, loops := true, plainKeys := false, apart := false }
def ArithValuesSaid : Prop := arithValuesRow.holds Try.pinned (OpenSpec.ofChange arithValuesSpec)

/-- ITS FALSE NEIGHBOUR: 'it returns false'. Refute it at one input. -/
def arithValuesWrong : ChangeSpec := { name := "arithValues", fn := fun _ => fun
  | [d1, d2] => { results := [.lit (.bool false)], args := [d1, d2] }
  | _ => none }
def ArithValuesWrongFalsely : Prop := arithValuesRow.holds Try.pinned (OpenSpec.ofChange arithValuesWrong)

/-- 'spinneylaw11.ArithHolds': WHATEVER THE INPUT: true; the input reads as it did. -/
def arithHoldsSpec : ChangeSpec := { name := "arithHolds", fn := fun _ => fun
  | [d1, d2, d3, d4] => { results := [.lit (.bool true)], args := [d1, d2, d3, d4] }
  | _ => none }
def arithHoldsRow : OpenClaim := { program := "ytpmohibhdnmjlaa", sum := "71e652a1bd4f9a1b34dd384d16ca3a52b7245446f4b0599fc1372d5d5813e841", func := "spinney/spinneylaw11.ArithHolds", spec := "arithHolds", unfollowed := true, recurses := true, loops := true, plainKeys := false, apart := false }
def ArithHoldsSaid : Prop := arithHoldsRow.holds Try.pinned (OpenSpec.ofChange arithHoldsSpec)

/-- ITS FALSE NEIGHBOUR: 'it returns false'. Refute it at one input. -/
def arithHoldsWrong : ChangeSpec := { name := "arithHolds", fn := fun _ => fun
  | [d1, d2, d3, d4] => { results := [.lit (.bool false)], args := [d1, d2, d3, d4] }
  | _ => none }
def ArithHoldsWrongFalsely : Prop := arithHoldsRow.holds Try.pinned (OpenSpec.ofChange arithHoldsWrong)

/-- 'spinneylaw11.ArithPairs': WHATEVER THE INPUT: true; the input reads as it did. -/
def arithPairsSpec : ChangeSpec := { name := "arithPairs", fn := fun _ => fun
  | [d1, d2, d3] => { results := [.lit (.bool true)], args := [d1, d2, d3] }
  | _ => none }
def arithPairsRow : OpenClaim := { program := "ytpmohibhdnmjlaa", sum := "71e652a1bd4f9a1b34dd384d16ca3a52b7245446f4b0599fc1372d5d5813e841", func := "spinney/spinneylaw11.ArithPairs", spec := "arithPairs", unfollowed := true, recurses := true, loops := true, plainKeys := false, apart := false }
def ArithPairsSaid : Prop := arithPairsRow.holds Try.pinned (OpenSpec.ofChange arithPairsSpec)

/-- ITS FALSE NEIGHBOUR: 'it returns false'. Refute it at one input. -/
def arithPairsWrong : ChangeSpec := { name := "arithPairs", fn := fun _ => fun
  | [d1, d2, d3] => { results := [.lit (.bool false)], args := [d1, d2, d3] }
  | _ => none }
def ArithPairsWrongFalsely : Prop := arithPairsRow.holds Try.pinned (OpenSpec.ofChange arithPairsWrong)

/-- 'spinneylaw11.ArithSums': WHATEVER THE INPUT: true; the input reads as it did. -/
def arithSumsSpec : ChangeSpec := { name := "arithSums", fn := fun _ => fun
  | [d1, d2] => { results := [.lit (.bool true)], args := [d1, d2] }
  | _ => none }
def arithSumsRow : OpenClaim := { program := "ytpmohibhdnmjlaa", sum := "71e652a1bd4f9a1b34dd384d16ca3a52b7245446f4b0599fc1372d5d5813e841", func := "spinney/spinneylaw11.ArithSums", spec := "arithSums", unfollowed := true, recurses := true, plainKeys := false, apart := false }
def ArithSumsSaid : Prop := arithSumsRow.holds Try.pinned (OpenSpec.ofChange arithSumsSpec)

/-- ITS FALSE NEIGHBOUR: 'it returns false'. Refute it at one input. -/
def arithSumsWrong : ChangeSpec := { name := "arithSums", fn := fun _ => fun
  | [d1, d2] => { results := [.lit (.bool false)], args := [d1, d2] }
  | _ => none }
def ArithSumsWrongFalsely : Prop := arithSumsRow.holds Try.pinned (OpenSpec.ofChange arithSumsWrong)

/- THE SECOND FORM. 'bulk': how many values and letters a reading holds, each counted each time it is reached (what is shared counts as often as it is met; a slice's spare places count too). A statement '..UptoSaid' is the law's where the arguments, and the package variables that the reading takes, are together of bulk at most 1048576: NARROWER than '..Said'. Prove '..Said' where nothing that the law and all that it calls make is longer than what came in: it says more and counts as full. Else prove '..UptoSaid'. A law counts once. -/
mutual
def uptoBulk {H : Type} : DataW H → Nat
  | .lit (.string bytes) => bytes.length + 1
  | .lit _ => 1
  | .nil => 1
  | .ptr d => uptoBulk d + 1
  | .slice elems spare => uptoBulkAll elems + uptoBulkAll spare + 1
  | .agg parts => uptoBulkAll parts + 1
  | .iface _ d => uptoBulk d + 1
  | .map entries => uptoBulkEntries entries + 1
  | .held _ => 1
def uptoBulkAll {H : Type} : List (DataW H) → Nat
  | [] => 0
  | d :: r => uptoBulk d + uptoBulkAll r
def uptoBulkEntries {H : Type} : List (Lit × DataW H) → Nat
  | [] => 0
  | x :: r => uptoBulkEntry x + uptoBulkEntries r
def uptoBulkEntry {H : Type} : Lit × DataW H → Nat
  | (.string bytes, d) => bytes.length + uptoBulk d + 1
  | (_, d) => uptoBulk d + 1
 end
def uptoSmall : (H : Type) → List (DataW H) → Bool := fun _ ds => decide (uptoBulkAll ds ≤ 1048576)
def OpenSpec.upto (s : _root_.Go.ChangeSpec) : _root_.Go.OpenSpec := { _root_.Go.OpenSpec.ofChange s with cond := some uptoSmall }

/-- 'spinneylaw11.ArithValues', WHERE WHAT IT READS IS OF BULK AT MOST 1048576: true; the input reads as it did. -/
def arithValuesUptoRow : OpenClaim := { program := "ytpmohibhdnmjlaa", sum := "71e652a1bd4f9a1b34dd384d16ca3a52b7245446f4b0599fc1372d5d5813e841", func := "spinney/spinneylaw11.ArithValues", spec := "arithValues", unfollowed := true, recurses := true, loops := true, plainKeys := false, apart := false, narrowed := true }
def ArithValuesUptoSaid : Prop := arithValuesUptoRow.holds Try.pinned (OpenSpec.upto arithValuesSpec)

/-- 'spinneylaw11.ArithHolds', WHERE WHAT IT READS IS OF BULK AT MOST 1048576: true; the input reads as it did. -/
def arithHoldsUptoRow : OpenClaim := { program := "ytpmohibhdnmjlaa", sum := "71e652a1bd4f9a1b34dd384d16ca3a52b7245446f4b0599fc1372d5d5813e841", func := "spinney/spinneylaw11.ArithHolds", spec := "arithHolds", unfollowed := true, recurses := true, loops := true, plainKeys := false, apart := false, narrowed := true }
def ArithHoldsUptoSaid : Prop := arithHoldsUptoRow.holds Try.pinned (OpenSpec.upto arithHoldsSpec)

/-- 'spinneylaw11.ArithPairs', WHERE WHAT IT READS IS OF BULK AT MOST 1048576: true; the input reads as it did. -/
def arithPairsUptoRow : OpenClaim := { program := "ytpmohibhdnmjlaa", sum := "71e652a1bd4f9a1b34dd384d16ca3a52b7245446f4b0599fc1372d5d5813e841", func := "spinney/spinneylaw11.ArithPairs", spec := "arithPairs", unfollowed := true, recurses := true, loops := true, plainKeys := false, apart := false, narrowed := true }
def ArithPairsUptoSaid : Prop := arithPairsUptoRow.holds Try.pinned (OpenSpec.upto arithPairsSpec)

/-- 'spinneylaw11.ArithSums', WHERE WHAT IT READS IS OF BULK AT MOST 1048576: true; the input reads as it did. -/
def arithSumsUptoRow : OpenClaim := { program := "ytpmohibhdnmjlaa", sum := "71e652a1bd4f9a1b34dd384d16ca3a52b7245446f4b0599fc1372d5d5813e841", func := "spinney/spinneylaw11.ArithSums", spec := "arithSums", unfollowed := true, recurses := true, plainKeys := false, apart := false, narrowed := true }
def ArithSumsUptoSaid : Prop := arithSumsUptoRow.holds Try.pinned (OpenSpec.upto arithSumsSpec)

end Rows
end Go.Proofs.Ytpmohibhdnmjlaa
