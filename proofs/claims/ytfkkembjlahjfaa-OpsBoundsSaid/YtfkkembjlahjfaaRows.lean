/-
  No cell of these rows narrows 'for every input' (looked for: loops, veiled, ifaces, maps, wideKeys, modest, calm, conditions, laid).
  DERIVED. THE GIVEN ROWS OF THIS SEAT. 4 by the template 'for every input the law returns true; each argument reads behind the call as it read before'; 0 by the template 'total and deterministic' (their statements: YtfkkembjlahjfaaTotals.lean).
  GIVEN WITH THE SEED: the statements are not yours to turn. If you find one false, say at which input.
  Laid BY PROGRAM, IN A SANDBOX (cutbox-rows.mjs): the forced cells as the released guide's own fill.sh prints them over the translation f115e713db2fdcdd… (all of the seat's roots in one cut). By AI agents, Wed Nov 11 2026. No macro, syntax, notation, axiom, sorry.
-/
import Derived.Test.YtfkkembjlahjfaaChecked
import GoSem.Claim
import GoSem.ClaimJoined
import GoSem.ClaimMapViews
import Derived.JoinedTies
import Derived.KernelRfl
namespace Go.Proofs.Ytfkkembjlahjfaa
/- THE CELL 'sum', in the pinned program and in every row, IS THE sha256 OF THE DUMP (.gsa) THAT YtfkkembjlahjfaaProg.lean LOADS. Nothing in Lean hashes anything: it is a label: what it is worth is what the hold of that sum in a sandbox is worth. -/
noncomputable def Try.pinned : Pinned := { name := "ytfkkembjlahjfaa", sum := "f115e713db2fdcddad56ffe5ce20f3590ba1a284b3259b64d5f5a8eec0027b6f", checked := Try.checked }
namespace Rows
def none {H : Type} : Left H := { results := [], args := [] }

/-- 'spinneylaw04.OpsTells': WHATEVER THE INPUT: true; the input reads as it did. -/
def opsTellsSpec : ChangeSpec := { name := "opsTells", fn := fun _ => fun
  | [d] => { results := [.lit (.bool true)], args := [d] }
  | _ => none }
def opsTellsRow : OpenClaim := { program := "ytfkkembjlahjfaa", sum := "f115e713db2fdcddad56ffe5ce20f3590ba1a284b3259b64d5f5a8eec0027b6f", func := "spinney/spinneylaw04.OpsTells", spec := "opsTells", apart := false }
def OpsTellsSaid : Prop := opsTellsRow.holds Try.pinned (OpenSpec.ofChange opsTellsSpec)

/-- ITS FALSE NEIGHBOUR: 'it returns false'. Refute it at one input. -/
def opsTellsWrong : ChangeSpec := { name := "opsTells", fn := fun _ => fun
  | [d] => { results := [.lit (.bool false)], args := [d] }
  | _ => none }
def OpsTellsWrongFalsely : Prop := opsTellsRow.holds Try.pinned (OpenSpec.ofChange opsTellsWrong)

/-- 'spinneylaw04.OpsSides': WHATEVER THE INPUT: true; the input reads as it did. -/
def opsSidesSpec : ChangeSpec := { name := "opsSides", fn := fun _ => fun
  | [d] => { results := [.lit (.bool true)], args := [d] }
  | _ => none }
def opsSidesRow : OpenClaim := { program := "ytfkkembjlahjfaa", sum := "f115e713db2fdcddad56ffe5ce20f3590ba1a284b3259b64d5f5a8eec0027b6f", func := "spinney/spinneylaw04.OpsSides", spec := "opsSides", apart := false }
def OpsSidesSaid : Prop := opsSidesRow.holds Try.pinned (OpenSpec.ofChange opsSidesSpec)

/-- ITS FALSE NEIGHBOUR: 'it returns false'. Refute it at one input. -/
def opsSidesWrong : ChangeSpec := { name := "opsSides", fn := fun _ => fun
  | [d] => { results := [.lit (.bool false)], args := [d] }
  | _ => none }
def OpsSidesWrongFalsely : Prop := opsSidesRow.holds Try.pinned (OpenSpec.ofChange opsSidesWrong)

/-- 'spinneylaw04.OpsBounds': WHATEVER THE INPUT: true; the input reads as it did. -/
def opsBoundsSpec : ChangeSpec := { name := "opsBounds", fn := fun _ => fun
  | [d] => { results := [.lit (.bool true)], args := [d] }
  | _ => none }
def opsBoundsRow : OpenClaim := { program := "ytfkkembjlahjfaa", sum := "f115e713db2fdcddad56ffe5ce20f3590ba1a284b3259b64d5f5a8eec0027b6f", func := "spinney/spinneylaw04.OpsBounds", spec := "opsBounds", apart := false }
def OpsBoundsSaid : Prop := opsBoundsRow.holds Try.pinned (OpenSpec.ofChange opsBoundsSpec)

/-- ITS FALSE NEIGHBOUR: 'it returns false'. Refute it at one input. -/
def opsBoundsWrong : ChangeSpec := { name := "opsBounds", fn := fun _ => fun
  | [d] => { results := [.lit (.bool false)], args := [d] }
  | _ => none }
def OpsBoundsWrongFalsely : Prop := opsBoundsRow.holds Try.pinned (OpenSpec.ofChange opsBoundsWrong)

/-- 'spinneylaw04.OpsBoth': WHATEVER THE INPUT: true; the input reads as it did. -/
def opsBothSpec : ChangeSpec := { name := "opsBoth", fn := fun _ => fun
  | [d] => { results := [.lit (.bool true)], args := [d] }
  | _ => none }
def opsBothRow : OpenClaim := { program := "ytfkkembjlahjfaa", sum := "f115e713db2fdcddad56ffe5ce20f3590ba1a284b3259b64d5f5a8eec0027b6f", func := "spinney/spinneylaw04.OpsBoth", spec := "opsBoth", apart := false }
def OpsBothSaid : Prop := opsBothRow.holds Try.pinned (OpenSpec.ofChange opsBothSpec)

/-- ITS FALSE NEIGHBOUR: 'it returns false'. Refute it at one input. -/
def opsBothWrong : ChangeSpec := { name := "opsBoth", fn := fun _ => fun
  | [d] => { results := [.lit (.bool false)], args := [d] }
  | _ => none }
def OpsBothWrongFalsely : Prop := opsBothRow.holds Try.pinned (OpenSpec.ofChange opsBothWrong)

/- THE SECOND FORM. 'bulk': how many values and letters a reading holds, each counted each time it is reached (what is shared counts as often as it is met; a slice's spare places count too). A statement '..UptoSaid' is the law's where the arguments, and the package variables that the reading takes, are together of bulk at most 1048576: NARROWER than '..Said'. Prove '..Said' where nothing that the law and all that it calls make is longer than what came in: it says more and counts as full. Else prove '..UptoSaid'. A law counts once. -/
mutual
def uptoBulk {H : Type} : DataW H → Nat
  | .lit (.string bytes) => bytes.length + 1
  | .lit _ => 1
  | .nil => 1
  | .ptr d => uptoBulk d + 1
  | .slice elems spare => uptoBulkAll elems + uptoBulkAll spare + 1
  | .agg parts => uptoBulkAll parts + 1
  | .iface _ d => uptoBulk d + 1
  | .map entries => uptoBulkEntries entries + 1
  | .held _ => 1
def uptoBulkAll {H : Type} : List (DataW H) → Nat
  | [] => 0
  | d :: r => uptoBulk d + uptoBulkAll r
def uptoBulkEntries {H : Type} : List (Lit × DataW H) → Nat
  | [] => 0
  | x :: r => uptoBulkEntry x + uptoBulkEntries r
def uptoBulkEntry {H : Type} : Lit × DataW H → Nat
  | (.string bytes, d) => bytes.length + uptoBulk d + 1
  | (_, d) => uptoBulk d + 1
 end
def uptoSmall : (H : Type) → List (DataW H) → Bool := fun _ ds => decide (uptoBulkAll ds ≤ 1048576)
def OpenSpec.upto (s : _root_.Go.ChangeSpec) : _root_.Go.OpenSpec := { _root_.Go.OpenSpec.ofChange s with cond := some uptoSmall }

/-- 'spinneylaw04.OpsTells', WHERE WHAT IT READS IS OF BULK AT MOST 1048576: true; the input reads as it did. -/
def opsTellsUptoRow : OpenClaim := { program := "ytfkkembjlahjfaa", sum := "f115e713db2fdcddad56ffe5ce20f3590ba1a284b3259b64d5f5a8eec0027b6f", func := "spinney/spinneylaw04.OpsTells", spec := "opsTells", apart := false, narrowed := true }
def OpsTellsUptoSaid : Prop := opsTellsUptoRow.holds Try.pinned (OpenSpec.upto opsTellsSpec)

/-- 'spinneylaw04.OpsSides', WHERE WHAT IT READS IS OF BULK AT MOST 1048576: true; the input reads as it did. -/
def opsSidesUptoRow : OpenClaim := { program := "ytfkkembjlahjfaa", sum := "f115e713db2fdcddad56ffe5ce20f3590ba1a284b3259b64d5f5a8eec0027b6f", func := "spinney/spinneylaw04.OpsSides", spec := "opsSides", apart := false, narrowed := true }
def OpsSidesUptoSaid : Prop := opsSidesUptoRow.holds Try.pinned (OpenSpec.upto opsSidesSpec)

/-- 'spinneylaw04.OpsBounds', WHERE WHAT IT READS IS OF BULK AT MOST 1048576: true; the input reads as it did. -/
def opsBoundsUptoRow : OpenClaim := { program := "ytfkkembjlahjfaa", sum := "f115e713db2fdcddad56ffe5ce20f3590ba1a284b3259b64d5f5a8eec0027b6f", func := "spinney/spinneylaw04.OpsBounds", spec := "opsBounds", apart := false, narrowed := true }
def OpsBoundsUptoSaid : Prop := opsBoundsUptoRow.holds Try.pinned (OpenSpec.upto opsBoundsSpec)

/-- 'spinneylaw04.OpsBoth', WHERE WHAT IT READS IS OF BULK AT MOST 1048576: true; the input reads as it did. -/
def opsBothUptoRow : OpenClaim := { program := "ytfkkembjlahjfaa", sum := "f115e713db2fdcddad56ffe5ce20f3590ba1a284b3259b64d5f5a8eec0027b6f", func := "spinney/spinneylaw04.OpsBoth", spec := "opsBoth", apart := false, narrowed := true }
def OpsBothUptoSaid : Prop := opsBothUptoRow.holds Try.pinned (OpenSpec.upto opsBothSpec)

end Rows
end Go.Proofs.Ytfkkembjlahjfaa
