/-
  NARROWER THAN 'FOR EVERY INPUT', by the rows' own cells (each row's printed sentence says how): SubstWalks: loops · SubstTwice: loops · SubstOrder: loops · SubstShifts: loops.
  DERIVED. THE GIVEN ROWS OF THIS SEAT. 4 by the template 'for every input the law returns true; each argument reads behind the call as it read before'; 0 by the template 'total and deterministic' (their statements: YtjgjeafjnaodkaaTotals.lean).
  GIVEN WITH THE SEED: the statements are not yours to turn. If you find one false, say at which input.
  Laid BY PROGRAM, IN A SANDBOX (cutbox-rows.mjs): the forced cells as the released guide's own fill.sh prints them over the translation 9e4c72d6e101824f… (all of the seat's roots in one cut). By AI agents, Wed Nov 11 2026. No macro, syntax, notation, axiom, sorry.
-/
import Derived.Test.YtjgjeafjnaodkaaChecked
import GoSem.Claim
import GoSem.ClaimJoined
import GoSem.ClaimMapViews
import Derived.JoinedTies
import Derived.KernelRfl
namespace Go.Proofs.Ytjgjeafjnaodkaa
/- THE CELL 'sum', in the pinned program and in every row, IS THE sha256 OF THE DUMP (.gsa) THAT YtjgjeafjnaodkaaProg.lean LOADS. Nothing in Lean hashes anything: it is a label: what it is worth is what the hold of that sum in a sandbox is worth. -/
noncomputable def Try.pinned : Pinned := { name := "ytjgjeafjnaodkaa", sum := "9e4c72d6e101824f2ce652fa995594d85f0c4fd5fd14962ab584cfa4eeeb0b49", checked := Try.checked }
namespace Rows
def none {H : Type} : Left H := { results := [], args := [] }

/-- 'spinneylaw09.SubstWalks': WHATEVER THE INPUT: true; the input reads as it did. -/
def substWalksSpec : ChangeSpec := { name := "substWalks", fn := fun _ => fun
  | [d1, d2, d3] => { results := [.lit (.bool true)], args := [d1, d2, d3] }
  | _ => none }
def substWalksRow : OpenClaim := { program := "ytjgjeafjnaodkaa", sum := "9e4c72d6e101824f2ce652fa995594d85f0c4fd5fd14962ab584cfa4eeeb0b49", func := "spinney/spinneylaw09.SubstWalks", spec := "substWalks", unfollowed := true, recurses := true, loops := true, apart := false }
def SubstWalksSaid : Prop := substWalksRow.holds Try.pinned (OpenSpec.ofChange substWalksSpec)

/-- ITS FALSE NEIGHBOUR: 'it returns false'. Refute it at one input. -/
def substWalksWrong : ChangeSpec := { name := "substWalks", fn := fun _ => fun
  | [d1, d2, d3] => { results := [.lit (.bool false)], args := [d1, d2, d3] }
  | _ => none }
def SubstWalksWrongFalsely : Prop := substWalksRow.holds Try.pinned (OpenSpec.ofChange substWalksWrong)

/-- 'spinneylaw09.SubstTwice': WHATEVER THE INPUT: true; the input reads as it did. -/
def substTwiceSpec : ChangeSpec := { name := "substTwice", fn := fun _ => fun
  | [d1, d2] => { results := [.lit (.bool true)], args := [d1, d2] }
  | _ => none }
def substTwiceRow : OpenClaim := { program := "ytjgjeafjnaodkaa", sum := "9e4c72d6e101824f2ce652fa995594d85f0c4fd5fd14962ab584cfa4eeeb0b49", func := "spinney/spinneylaw09.SubstTwice", spec := "substTwice", unfollowed := true, recurses := true, loops := true, apart := false }
def SubstTwiceSaid : Prop := substTwiceRow.holds Try.pinned (OpenSpec.ofChange substTwiceSpec)

/-- ITS FALSE NEIGHBOUR: 'it returns false'. Refute it at one input. -/
def substTwiceWrong : ChangeSpec := { name := "substTwice", fn := fun _ => fun
  | [d1, d2] => { results := [.lit (.bool false)], args := [d1, d2] }
  | _ => none }
def SubstTwiceWrongFalsely : Prop := substTwiceRow.holds Try.pinned (OpenSpec.ofChange substTwiceWrong)

/-- 'spinneylaw09.SubstOrder': WHATEVER THE INPUT: true; the input reads as it did. -/
def substOrderSpec : ChangeSpec := { name := "substOrder", fn := fun _ => fun
  | [d1, d2, d3, d4] => { results := [.lit (.bool true)], args := [d1, d2, d3, d4] }
  | _ => none }
def substOrderRow : OpenClaim := { program := "ytjgjeafjnaodkaa", sum := "9e4c72d6e101824f2ce652fa995594d85f0c4fd5fd14962ab584cfa4eeeb0b49", func := "spinney/spinneylaw09.SubstOrder", spec := "substOrder", unfollowed := true, recurses := true, loops := true, apart := false }
def SubstOrderSaid : Prop := substOrderRow.holds Try.pinned (OpenSpec.ofChange substOrderSpec)

/-- ITS FALSE NEIGHBOUR: 'it returns false'. Refute it at one input. -/
def substOrderWrong : ChangeSpec := { name := "substOrder", fn := fun _ => fun
  | [d1, d2, d3, d4] => { results := [.lit (.bool false)], args := [d1, d2, d3, d4] }
  | _ => none }
def SubstOrderWrongFalsely : Prop := substOrderRow.holds Try.pinned (OpenSpec.ofChange substOrderWrong)

/-- 'spinneylaw09.SubstShifts': WHATEVER THE INPUT: true; the input reads as it did. -/
def substShiftsSpec : ChangeSpec := { name := "substShifts", fn := fun _ => fun
  | [d1, d2, d3] => { results := [.lit (.bool true)], args := [d1, d2, d3] }
  | _ => none }
def substShiftsRow : OpenClaim := { program := "ytjgjeafjnaodkaa", sum := "9e4c72d6e101824f2ce652fa995594d85f0c4fd5fd14962ab584cfa4eeeb0b49", func := "spinney/spinneylaw09.SubstShifts", spec := "substShifts", unfollowed := true, recurses := true, loops := true, apart := false }
def SubstShiftsSaid : Prop := substShiftsRow.holds Try.pinned (OpenSpec.ofChange substShiftsSpec)

/-- ITS FALSE NEIGHBOUR: 'it returns false'. Refute it at one input. -/
def substShiftsWrong : ChangeSpec := { name := "substShifts", fn := fun _ => fun
  | [d1, d2, d3] => { results := [.lit (.bool false)], args := [d1, d2, d3] }
  | _ => none }
def SubstShiftsWrongFalsely : Prop := substShiftsRow.holds Try.pinned (OpenSpec.ofChange substShiftsWrong)

/- THE SECOND FORM. 'bulk': how many values and letters a reading holds, each counted each time it is reached (what is shared counts as often as it is met; a slice's spare places count too). A statement '..UptoSaid' is the law's where the arguments, and the package variables that the reading takes, are together of bulk at most 1048576: NARROWER than '..Said'. Prove '..Said' where nothing that the law and all that it calls make is longer than what came in: it says more and counts as full. Else prove '..UptoSaid'. A law counts once. -/
mutual
def uptoBulk {H : Type} : DataW H → Nat
  | .lit (.string bytes) => bytes.length + 1
  | .lit _ => 1
  | .nil => 1
  | .ptr d => uptoBulk d + 1
  | .slice elems spare => uptoBulkAll elems + uptoBulkAll spare + 1
  | .agg parts => uptoBulkAll parts + 1
  | .iface _ d => uptoBulk d + 1
  | .map entries => uptoBulkEntries entries + 1
  | .held _ => 1
def uptoBulkAll {H : Type} : List (DataW H) → Nat
  | [] => 0
  | d :: r => uptoBulk d + uptoBulkAll r
def uptoBulkEntries {H : Type} : List (Lit × DataW H) → Nat
  | [] => 0
  | x :: r => uptoBulkEntry x + uptoBulkEntries r
def uptoBulkEntry {H : Type} : Lit × DataW H → Nat
  | (.string bytes, d) => bytes.length + uptoBulk d + 1
  | (_, d) => uptoBulk d + 1
 end
def uptoSmall : (H : Type) → List (DataW H) → Bool := fun _ ds => decide (uptoBulkAll ds ≤ 1048576)
def OpenSpec.upto (s : _root_.Go.ChangeSpec) : _root_.Go.OpenSpec := { _root_.Go.OpenSpec.ofChange s with cond := some uptoSmall }

/-- 'spinneylaw09.SubstWalks', WHERE WHAT IT READS IS OF BULK AT MOST 1048576: true; the input reads as it did. -/
def substWalksUptoRow : OpenClaim := { program := "ytjgjeafjnaodkaa", sum := "9e4c72d6e101824f2ce652fa995594d85f0c4fd5fd14962ab584cfa4eeeb0b49", func := "spinney/spinneylaw09.SubstWalks", spec := "substWalks", unfollowed := true, recurses := true, loops := true, apart := false, narrowed := true }
def SubstWalksUptoSaid : Prop := substWalksUptoRow.holds Try.pinned (OpenSpec.upto substWalksSpec)

/-- 'spinneylaw09.SubstTwice', WHERE WHAT IT READS IS OF BULK AT MOST 1048576: true; the input reads as it did. -/
def substTwiceUptoRow : OpenClaim := { program := "ytjgjeafjnaodkaa", sum := "9e4c72d6e101824f2ce652fa995594d85f0c4fd5fd14962ab584cfa4eeeb0b49", func := "spinney/spinneylaw09.SubstTwice", spec := "substTwice", unfollowed := true, recurses := true, loops := true, apart := false, narrowed := true }
def SubstTwiceUptoSaid : Prop := substTwiceUptoRow.holds Try.pinned (OpenSpec.upto substTwiceSpec)

/-- 'spinneylaw09.SubstOrder', WHERE WHAT IT READS IS OF BULK AT MOST 1048576: true; the input reads as it did. -/
def substOrderUptoRow : OpenClaim := { program := "ytjgjeafjnaodkaa", sum := "9e4c72d6e101824f2ce652fa995594d85f0c4fd5fd14962ab584cfa4eeeb0b49", func := "spinney/spinneylaw09.SubstOrder", spec := "substOrder", unfollowed := true, recurses := true, loops := true, apart := false, narrowed := true }
def SubstOrderUptoSaid : Prop := substOrderUptoRow.holds Try.pinned (OpenSpec.upto substOrderSpec)

/-- 'spinneylaw09.SubstShifts', WHERE WHAT IT READS IS OF BULK AT MOST 1048576: true; the input reads as it did. -/
def substShiftsUptoRow : OpenClaim := { program := "ytjgjeafjnaodkaa", sum := "9e4c72d6e101824f2ce652fa995594d85f0c4fd5fd14962ab584cfa4eeeb0b49", func := "spinney/spinneylaw09.SubstShifts", spec := "substShifts", unfollowed := true, recurses := true, loops := true, apart := false, narrowed := true }
def SubstShiftsUptoSaid : Prop := substShiftsUptoRow.holds Try.pinned (OpenSpec.upto substShiftsSpec)

end Rows
end Go.Proofs.Ytjgjeafjnaodkaa
