/-
  NARROWER THAN 'FOR EVERY INPUT', by the rows' own cells (each row's printed sentence says how): ClauseNames: laid · ClauseMakes: loops, laid · ClausePrograms: laid · ClauseFinds: loops, laid · ClauseBack: loops, laid · ClauseJoins: loops, laid.
  DERIVED. THE GIVEN ROWS OF THIS SEAT. 6 by the template 'for every input the law returns true; each argument reads behind the call as it read before'; 0 by the template 'total and deterministic' (their statements: YtinefdlkajnomaaGreatDoorTotals.lean).
  GIVEN WITH THE SEED: the statements are not yours to turn. If you find one false, say at which input.
  Laid BY PROGRAM, IN A SANDBOX (cutbox-rows.mjs): the forced cells as the released guide's own fill.sh prints them over the translation 4dd1d4fb7014feec… (all of the seat's roots in one cut). By AI agents, Wed Nov 11 2026. No macro, syntax, notation, axiom, sorry.
-/
import Derived.Test.YtinefdlkajnomaaGreatDoorChecked
import GoSem.PinnedTables
import GoSem.Claim
import GoSem.ClaimJoined
import GoSem.ClaimMapViews
import Derived.JoinedTies
import Derived.KernelRfl
namespace Go.Proofs.YtinefdlkajnomaaGreatDoor
/- THE CELL 'sum', in the pinned program and in every row, IS THE sha256 OF THE DUMP (.gsa) THAT YtinefdlkajnomaaGreatDoorProg.lean LOADS. Nothing in Lean hashes anything: it is a label: what it is worth is what the hold of that sum in a sandbox is worth. -/
noncomputable def Tryz.pinned : Pinned := { name := "ytinefdlkajnomaagreatdoor", sum := "4dd1d4fb7014feec54964a1dd189b48cecb3ba72f6390028f22677e2a3971541", checked := Tryz.checked }
namespace Rows
def none {H : Type} : Left H := { results := [], args := [] }

/- WHAT THE LISTED PACKAGE-LEVEL VARIABLES READ AS WHEN THE CALL BEGINS. Each datum BY PROGRAM (the guide's laid-datum.mjs) off the statement by which the dump's own 'gosem.cut.vars' lays the variable. In a bare row this is a premise. The card (YtinefdlkajnomaaGreatDoorCards.lean) ties it to the program's text. -/
def laid_unicode_utf8_acceptRanges {H : Type} : DataW H := .agg [.agg [.lit (.int .u8 128), .lit (.int .u8 191)], .agg [.lit (.int .u8 160), .lit (.int .u8 191)], .agg [.lit (.int .u8 128), .lit (.int .u8 159)], .agg [.lit (.int .u8 144), .lit (.int .u8 191)], .agg [.lit (.int .u8 128), .lit (.int .u8 143)], .agg [.lit (.int .u8 0), .lit (.int .u8 0)], .agg [.lit (.int .u8 0), .lit (.int .u8 0)], .agg [.lit (.int .u8 0), .lit (.int .u8 0)], .agg [.lit (.int .u8 0), .lit (.int .u8 0)], .agg [.lit (.int .u8 0), .lit (.int .u8 0)], .agg [.lit (.int .u8 0), .lit (.int .u8 0)], .agg [.lit (.int .u8 0), .lit (.int .u8 0)], .agg [.lit (.int .u8 0), .lit (.int .u8 0)], .agg [.lit (.int .u8 0), .lit (.int .u8 0)], .agg [.lit (.int .u8 0), .lit (.int .u8 0)], .agg [.lit (.int .u8 0), .lit (.int .u8 0)]]
/-- One of Go's own tables, pinned by name: the form's constant. -/
def laid_unicode_utf8_first : DataW Unit := Go.Pinned.utf8First

/-- 'spinneylaw08.ClauseNames': WHATEVER THE INPUT: true; the input reads as it did. -/
def clauseNamesSpec : ChangeSpec := { name := "clauseNames", fn := fun _ => fun
  | [d1, d2] => { results := [.lit (.bool true)], args := [d1, d2] }
  | _ => none }
def clauseNamesRow : OpenClaim := { program := "ytinefdlkajnomaagreatdoor", sum := "4dd1d4fb7014feec54964a1dd189b48cecb3ba72f6390028f22677e2a3971541", func := "spinney/spinneylaw08.ClauseNames", spec := "clauseNames", inPlace := ["internal/bytealg.IndexByteString", "internal/bytealg.IndexString"], unfollowed := true, recurses := true, named := ["internal/bytealg.MaxLen", "unicode/utf8.first", "unicode/utf8.acceptRanges"], apart := false, laid := [("unicode/utf8.acceptRanges", laid_unicode_utf8_acceptRanges), ("unicode/utf8.first", laid_unicode_utf8_first)] }
def ClauseNamesSaid : Prop := clauseNamesRow.holds Tryz.pinned (OpenSpec.ofChange clauseNamesSpec)

/-- ITS FALSE NEIGHBOUR: 'it returns false'. Refute it at one input. -/
def clauseNamesWrong : ChangeSpec := { name := "clauseNames", fn := fun _ => fun
  | [d1, d2] => { results := [.lit (.bool false)], args := [d1, d2] }
  | _ => none }
def ClauseNamesWrongFalsely : Prop := clauseNamesRow.holds Tryz.pinned (OpenSpec.ofChange clauseNamesWrong)

/-- 'spinneylaw08.ClauseMakes': WHATEVER THE INPUT: true; the input reads as it did. -/
def clauseMakesSpec : ChangeSpec := { name := "clauseMakes", fn := fun _ => fun
  | [d] => { results := [.lit (.bool true)], args := [d] }
  | _ => none }
def clauseMakesRow : OpenClaim := { program := "ytinefdlkajnomaagreatdoor", sum := "4dd1d4fb7014feec54964a1dd189b48cecb3ba72f6390028f22677e2a3971541", func := "spinney/spinneylaw08.ClauseMakes", spec := "clauseMakes", inPlace := ["internal/bytealg.IndexByteString", "internal/bytealg.IndexString"], unfollowed := true, recurses := true, named := ["internal/bytealg.MaxLen", "unicode/utf8.first", "unicode/utf8.acceptRanges"], loops := true, apart := false, laid := [("unicode/utf8.acceptRanges", laid_unicode_utf8_acceptRanges), ("unicode/utf8.first", laid_unicode_utf8_first)] }
def ClauseMakesSaid : Prop := clauseMakesRow.holds Tryz.pinned (OpenSpec.ofChange clauseMakesSpec)

/-- ITS FALSE NEIGHBOUR: 'it returns false'. Refute it at one input. -/
def clauseMakesWrong : ChangeSpec := { name := "clauseMakes", fn := fun _ => fun
  | [d] => { results := [.lit (.bool false)], args := [d] }
  | _ => none }
def ClauseMakesWrongFalsely : Prop := clauseMakesRow.holds Tryz.pinned (OpenSpec.ofChange clauseMakesWrong)

/-- 'spinneylaw08.ClausePrograms': WHATEVER THE INPUT: true; the input reads as it did. -/
def clauseProgramsSpec : ChangeSpec := { name := "clausePrograms", fn := fun _ => fun
  | [d] => { results := [.lit (.bool true)], args := [d] }
  | _ => none }
def clauseProgramsRow : OpenClaim := { program := "ytinefdlkajnomaagreatdoor", sum := "4dd1d4fb7014feec54964a1dd189b48cecb3ba72f6390028f22677e2a3971541", func := "spinney/spinneylaw08.ClausePrograms", spec := "clausePrograms", inPlace := ["internal/bytealg.IndexByteString", "internal/bytealg.IndexString"], unfollowed := true, recurses := true, named := ["internal/bytealg.MaxLen", "unicode/utf8.first", "unicode/utf8.acceptRanges"], apart := false, laid := [("unicode/utf8.acceptRanges", laid_unicode_utf8_acceptRanges), ("unicode/utf8.first", laid_unicode_utf8_first)] }
def ClauseProgramsSaid : Prop := clauseProgramsRow.holds Tryz.pinned (OpenSpec.ofChange clauseProgramsSpec)

/-- ITS FALSE NEIGHBOUR: 'it returns false'. Refute it at one input. -/
def clauseProgramsWrong : ChangeSpec := { name := "clausePrograms", fn := fun _ => fun
  | [d] => { results := [.lit (.bool false)], args := [d] }
  | _ => none }
def ClauseProgramsWrongFalsely : Prop := clauseProgramsRow.holds Tryz.pinned (OpenSpec.ofChange clauseProgramsWrong)

/-- 'spinneylaw08.ClauseFinds': WHATEVER THE INPUT: true; the input reads as it did. -/
def clauseFindsSpec : ChangeSpec := { name := "clauseFinds", fn := fun _ => fun
  | [d1, d2, d3] => { results := [.lit (.bool true)], args := [d1, d2, d3] }
  | _ => none }
def clauseFindsRow : OpenClaim := { program := "ytinefdlkajnomaagreatdoor", sum := "4dd1d4fb7014feec54964a1dd189b48cecb3ba72f6390028f22677e2a3971541", func := "spinney/spinneylaw08.ClauseFinds", spec := "clauseFinds", inPlace := ["internal/bytealg.IndexByteString", "internal/bytealg.IndexString"], unfollowed := true, recurses := true, named := ["internal/bytealg.MaxLen", "unicode/utf8.first", "unicode/utf8.acceptRanges"], loops := true, apart := false, laid := [("unicode/utf8.acceptRanges", laid_unicode_utf8_acceptRanges), ("unicode/utf8.first", laid_unicode_utf8_first)] }
def ClauseFindsSaid : Prop := clauseFindsRow.holds Tryz.pinned (OpenSpec.ofChange clauseFindsSpec)

/-- ITS FALSE NEIGHBOUR: 'it returns false'. Refute it at one input. -/
def clauseFindsWrong : ChangeSpec := { name := "clauseFinds", fn := fun _ => fun
  | [d1, d2, d3] => { results := [.lit (.bool false)], args := [d1, d2, d3] }
  | _ => none }
def ClauseFindsWrongFalsely : Prop := clauseFindsRow.holds Tryz.pinned (OpenSpec.ofChange clauseFindsWrong)

/-- 'spinneylaw08.ClauseBack': WHATEVER THE INPUT: true; the input reads as it did. -/
def clauseBackSpec : ChangeSpec := { name := "clauseBack", fn := fun _ => fun
  | [d] => { results := [.lit (.bool true)], args := [d] }
  | _ => none }
def clauseBackRow : OpenClaim := { program := "ytinefdlkajnomaagreatdoor", sum := "4dd1d4fb7014feec54964a1dd189b48cecb3ba72f6390028f22677e2a3971541", func := "spinney/spinneylaw08.ClauseBack", spec := "clauseBack", inPlace := ["internal/bytealg.IndexByteString", "internal/bytealg.IndexString"], unfollowed := true, recurses := true, named := ["internal/bytealg.MaxLen", "unicode/utf8.first", "unicode/utf8.acceptRanges"], loops := true, apart := false, laid := [("unicode/utf8.acceptRanges", laid_unicode_utf8_acceptRanges), ("unicode/utf8.first", laid_unicode_utf8_first)] }
def ClauseBackSaid : Prop := clauseBackRow.holds Tryz.pinned (OpenSpec.ofChange clauseBackSpec)

/-- ITS FALSE NEIGHBOUR: 'it returns false'. Refute it at one input. -/
def clauseBackWrong : ChangeSpec := { name := "clauseBack", fn := fun _ => fun
  | [d] => { results := [.lit (.bool false)], args := [d] }
  | _ => none }
def ClauseBackWrongFalsely : Prop := clauseBackRow.holds Tryz.pinned (OpenSpec.ofChange clauseBackWrong)

/-- 'spinneylaw08.ClauseJoins': WHATEVER THE INPUT: true; the input reads as it did. -/
def clauseJoinsSpec : ChangeSpec := { name := "clauseJoins", fn := fun _ => fun
  | [d1, d2] => { results := [.lit (.bool true)], args := [d1, d2] }
  | _ => none }
def clauseJoinsRow : OpenClaim := { program := "ytinefdlkajnomaagreatdoor", sum := "4dd1d4fb7014feec54964a1dd189b48cecb3ba72f6390028f22677e2a3971541", func := "spinney/spinneylaw08.ClauseJoins", spec := "clauseJoins", inPlace := ["internal/bytealg.IndexByteString", "internal/bytealg.IndexString"], unfollowed := true, recurses := true, named := ["internal/bytealg.MaxLen", "unicode/utf8.first", "unicode/utf8.acceptRanges"], loops := true, apart := false, laid := [("unicode/utf8.acceptRanges", laid_unicode_utf8_acceptRanges), ("unicode/utf8.first", laid_unicode_utf8_first)] }
def ClauseJoinsSaid : Prop := clauseJoinsRow.holds Tryz.pinned (OpenSpec.ofChange clauseJoinsSpec)

/-- ITS FALSE NEIGHBOUR: 'it returns false'. Refute it at one input. -/
def clauseJoinsWrong : ChangeSpec := { name := "clauseJoins", fn := fun _ => fun
  | [d1, d2] => { results := [.lit (.bool false)], args := [d1, d2] }
  | _ => none }
def ClauseJoinsWrongFalsely : Prop := clauseJoinsRow.holds Tryz.pinned (OpenSpec.ofChange clauseJoinsWrong)

/- THE SECOND FORM. 'bulk': how many values and letters a reading holds, each counted each time it is reached (what is shared counts as often as it is met; a slice's spare places count too). A statement '..UptoSaid' is the law's where the arguments, and the package variables that the reading takes, are together of bulk at most 1048576: NARROWER than '..Said'. Prove '..Said' where nothing that the law and all that it calls make is longer than what came in: it says more and counts as full. Else prove '..UptoSaid'. A law counts once. -/
mutual
def uptoBulk {H : Type} : DataW H → Nat
  | .lit (.string bytes) => bytes.length + 1
  | .lit _ => 1
  | .nil => 1
  | .ptr d => uptoBulk d + 1
  | .slice elems spare => uptoBulkAll elems + uptoBulkAll spare + 1
  | .agg parts => uptoBulkAll parts + 1
  | .iface _ d => uptoBulk d + 1
  | .map entries => uptoBulkEntries entries + 1
  | .held _ => 1
def uptoBulkAll {H : Type} : List (DataW H) → Nat
  | [] => 0
  | d :: r => uptoBulk d + uptoBulkAll r
def uptoBulkEntries {H : Type} : List (Lit × DataW H) → Nat
  | [] => 0
  | x :: r => uptoBulkEntry x + uptoBulkEntries r
def uptoBulkEntry {H : Type} : Lit × DataW H → Nat
  | (.string bytes, d) => bytes.length + uptoBulk d + 1
  | (_, d) => uptoBulk d + 1
 end
def uptoSmall : (H : Type) → List (DataW H) → Bool := fun _ ds => decide (uptoBulkAll ds ≤ 1048576)
def OpenSpec.upto (s : _root_.Go.ChangeSpec) : _root_.Go.OpenSpec := { _root_.Go.OpenSpec.ofChange s with cond := some uptoSmall }

/-- 'spinneylaw08.ClauseNames', WHERE WHAT IT READS IS OF BULK AT MOST 1048576: true; the input reads as it did. -/
def clauseNamesUptoRow : OpenClaim := { program := "ytinefdlkajnomaagreatdoor", sum := "4dd1d4fb7014feec54964a1dd189b48cecb3ba72f6390028f22677e2a3971541", func := "spinney/spinneylaw08.ClauseNames", spec := "clauseNames", inPlace := ["internal/bytealg.IndexByteString", "internal/bytealg.IndexString"], unfollowed := true, recurses := true, named := ["internal/bytealg.MaxLen", "unicode/utf8.first", "unicode/utf8.acceptRanges"], apart := false, laid := [("unicode/utf8.acceptRanges", laid_unicode_utf8_acceptRanges), ("unicode/utf8.first", laid_unicode_utf8_first)], narrowed := true }
def ClauseNamesUptoSaid : Prop := clauseNamesUptoRow.holds Tryz.pinned (OpenSpec.upto clauseNamesSpec)

/-- 'spinneylaw08.ClauseMakes', WHERE WHAT IT READS IS OF BULK AT MOST 1048576: true; the input reads as it did. -/
def clauseMakesUptoRow : OpenClaim := { program := "ytinefdlkajnomaagreatdoor", sum := "4dd1d4fb7014feec54964a1dd189b48cecb3ba72f6390028f22677e2a3971541", func := "spinney/spinneylaw08.ClauseMakes", spec := "clauseMakes", inPlace := ["internal/bytealg.IndexByteString", "internal/bytealg.IndexString"], unfollowed := true, recurses := true, named := ["internal/bytealg.MaxLen", "unicode/utf8.first", "unicode/utf8.acceptRanges"], loops := true, apart := false, laid := [("unicode/utf8.acceptRanges", laid_unicode_utf8_acceptRanges), ("unicode/utf8.first", laid_unicode_utf8_first)], narrowed := true }
def ClauseMakesUptoSaid : Prop := clauseMakesUptoRow.holds Tryz.pinned (OpenSpec.upto clauseMakesSpec)

/-- 'spinneylaw08.ClausePrograms', WHERE WHAT IT READS IS OF BULK AT MOST 1048576: true; the input reads as it did. -/
def clauseProgramsUptoRow : OpenClaim := { program := "ytinefdlkajnomaagreatdoor", sum := "4dd1d4fb7014feec54964a1dd189b48cecb3ba72f6390028f22677e2a3971541", func := "spinney/spinneylaw08.ClausePrograms", spec := "clausePrograms", inPlace := ["internal/bytealg.IndexByteString", "internal/bytealg.IndexString"], unfollowed := true, recurses := true, named := ["internal/bytealg.MaxLen", "unicode/utf8.first", "unicode/utf8.acceptRanges"], apart := false, laid := [("unicode/utf8.acceptRanges", laid_unicode_utf8_acceptRanges), ("unicode/utf8.first", laid_unicode_utf8_first)], narrowed := true }
def ClauseProgramsUptoSaid : Prop := clauseProgramsUptoRow.holds Tryz.pinned (OpenSpec.upto clauseProgramsSpec)

/-- 'spinneylaw08.ClauseFinds', WHERE WHAT IT READS IS OF BULK AT MOST 1048576: true; the input reads as it did. -/
def clauseFindsUptoRow : OpenClaim := { program := "ytinefdlkajnomaagreatdoor", sum := "4dd1d4fb7014feec54964a1dd189b48cecb3ba72f6390028f22677e2a3971541", func := "spinney/spinneylaw08.ClauseFinds", spec := "clauseFinds", inPlace := ["internal/bytealg.IndexByteString", "internal/bytealg.IndexString"], unfollowed := true, recurses := true, named := ["internal/bytealg.MaxLen", "unicode/utf8.first", "unicode/utf8.acceptRanges"], loops := true, apart := false, laid := [("unicode/utf8.acceptRanges", laid_unicode_utf8_acceptRanges), ("unicode/utf8.first", laid_unicode_utf8_first)], narrowed := true }
def ClauseFindsUptoSaid : Prop := clauseFindsUptoRow.holds Tryz.pinned (OpenSpec.upto clauseFindsSpec)

/-- 'spinneylaw08.ClauseBack', WHERE WHAT IT READS IS OF BULK AT MOST 1048576: true; the input reads as it did. -/
def clauseBackUptoRow : OpenClaim := { program := "ytinefdlkajnomaagreatdoor", sum := "4dd1d4fb7014feec54964a1dd189b48cecb3ba72f6390028f22677e2a3971541", func := "spinney/spinneylaw08.ClauseBack", spec := "clauseBack", inPlace := ["internal/bytealg.IndexByteString", "internal/bytealg.IndexString"], unfollowed := true, recurses := true, named := ["internal/bytealg.MaxLen", "unicode/utf8.first", "unicode/utf8.acceptRanges"], loops := true, apart := false, laid := [("unicode/utf8.acceptRanges", laid_unicode_utf8_acceptRanges), ("unicode/utf8.first", laid_unicode_utf8_first)], narrowed := true }
def ClauseBackUptoSaid : Prop := clauseBackUptoRow.holds Tryz.pinned (OpenSpec.upto clauseBackSpec)

/-- 'spinneylaw08.ClauseJoins', WHERE WHAT IT READS IS OF BULK AT MOST 1048576: true; the input reads as it did. -/
def clauseJoinsUptoRow : OpenClaim := { program := "ytinefdlkajnomaagreatdoor", sum := "4dd1d4fb7014feec54964a1dd189b48cecb3ba72f6390028f22677e2a3971541", func := "spinney/spinneylaw08.ClauseJoins", spec := "clauseJoins", inPlace := ["internal/bytealg.IndexByteString", "internal/bytealg.IndexString"], unfollowed := true, recurses := true, named := ["internal/bytealg.MaxLen", "unicode/utf8.first", "unicode/utf8.acceptRanges"], loops := true, apart := false, laid := [("unicode/utf8.acceptRanges", laid_unicode_utf8_acceptRanges), ("unicode/utf8.first", laid_unicode_utf8_first)], narrowed := true }
def ClauseJoinsUptoSaid : Prop := clauseJoinsUptoRow.holds Tryz.pinned (OpenSpec.upto clauseJoinsSpec)

end Rows
end Go.Proofs.YtinefdlkajnomaaGreatDoor
