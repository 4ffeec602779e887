/-
  NARROWER THAN 'FOR EVERY INPUT', by the rows' own cells (each row's printed sentence says how): ReadPrograms: laid · ReadQueries: laid · ReadJoins: laid · ReadBrackets: laid · ReadNumbers: laid · ReadAtoms: laid · ReadLists: laid.
  DERIVED. THE GIVEN ROWS OF THIS SEAT. 7 by the template 'for every input the law returns true; each argument reads behind the call as it read before'; 0 by the template 'total and deterministic' (their statements: YtlbdocdjijhkbaaGreatDoorTotals.lean).
  GIVEN WITH THE SEED: the statements are not yours to turn. If you find one false, say at which input.
  Laid BY PROGRAM, IN A SANDBOX (cutbox-rows.mjs): the forced cells as the released guide's own fill.sh prints them over the translation 56e2a5d69e9b0bd5… (all of the seat's roots in one cut). By AI agents, Wed Nov 11 2026. No macro, syntax, notation, axiom, sorry.
-/
import Derived.Test.YtlbdocdjijhkbaaGreatDoorChecked
import GoSem.PinnedTables
import GoSem.Claim
import GoSem.ClaimJoined
import GoSem.ClaimMapViews
import Derived.JoinedTies
import Derived.KernelRfl
namespace Go.Proofs.YtlbdocdjijhkbaaGreatDoor
/- THE CELL 'sum', in the pinned program and in every row, IS THE sha256 OF THE DUMP (.gsa) THAT YtlbdocdjijhkbaaGreatDoorProg.lean LOADS. Nothing in Lean hashes anything: it is a label: what it is worth is what the hold of that sum in a sandbox is worth. -/
noncomputable def Tryz.pinned : Pinned := { name := "ytlbdocdjijhkbaagreatdoor", sum := "56e2a5d69e9b0bd5389d22f9f3717bea2f00a9cc4fc8a4975404cdacfad5e513", checked := Tryz.checked }
namespace Rows
def none {H : Type} : Left H := { results := [], args := [] }

/- WHAT THE LISTED PACKAGE-LEVEL VARIABLES READ AS WHEN THE CALL BEGINS. Each datum BY PROGRAM (the guide's laid-datum.mjs) off the statement by which the dump's own 'gosem.cut.vars' lays the variable. In a bare row this is a premise. The card (YtlbdocdjijhkbaaGreatDoorCards.lean) ties it to the program's text. -/
def laid_unicode_utf8_acceptRanges {H : Type} : DataW H := .agg [.agg [.lit (.int .u8 128), .lit (.int .u8 191)], .agg [.lit (.int .u8 160), .lit (.int .u8 191)], .agg [.lit (.int .u8 128), .lit (.int .u8 159)], .agg [.lit (.int .u8 144), .lit (.int .u8 191)], .agg [.lit (.int .u8 128), .lit (.int .u8 143)], .agg [.lit (.int .u8 0), .lit (.int .u8 0)], .agg [.lit (.int .u8 0), .lit (.int .u8 0)], .agg [.lit (.int .u8 0), .lit (.int .u8 0)], .agg [.lit (.int .u8 0), .lit (.int .u8 0)], .agg [.lit (.int .u8 0), .lit (.int .u8 0)], .agg [.lit (.int .u8 0), .lit (.int .u8 0)], .agg [.lit (.int .u8 0), .lit (.int .u8 0)], .agg [.lit (.int .u8 0), .lit (.int .u8 0)], .agg [.lit (.int .u8 0), .lit (.int .u8 0)], .agg [.lit (.int .u8 0), .lit (.int .u8 0)], .agg [.lit (.int .u8 0), .lit (.int .u8 0)]]
/-- One of Go's own tables, pinned by name: the form's constant. -/
def laid_unicode_utf8_first : DataW Unit := Go.Pinned.utf8First

/-- 'spinneylaw06.ReadPrograms': WHATEVER THE INPUT: true; the input reads as it did. -/
def readProgramsSpec : ChangeSpec := { name := "readPrograms", fn := fun _ => fun
  | [d] => { results := [.lit (.bool true)], args := [d] }
  | _ => none }
def readProgramsRow : OpenClaim := { program := "ytlbdocdjijhkbaagreatdoor", sum := "56e2a5d69e9b0bd5389d22f9f3717bea2f00a9cc4fc8a4975404cdacfad5e513", func := "spinney/spinneylaw06.ReadPrograms", spec := "readPrograms", inPlace := ["internal/bytealg.IndexByteString", "internal/bytealg.IndexString"], unfollowed := true, recurses := true, named := ["internal/bytealg.MaxLen", "unicode/utf8.first", "unicode/utf8.acceptRanges"], apart := false, laid := [("unicode/utf8.acceptRanges", laid_unicode_utf8_acceptRanges), ("unicode/utf8.first", laid_unicode_utf8_first)] }
def ReadProgramsSaid : Prop := readProgramsRow.holds Tryz.pinned (OpenSpec.ofChange readProgramsSpec)

/-- ITS FALSE NEIGHBOUR: 'it returns false'. Refute it at one input. -/
def readProgramsWrong : ChangeSpec := { name := "readPrograms", fn := fun _ => fun
  | [d] => { results := [.lit (.bool false)], args := [d] }
  | _ => none }
def ReadProgramsWrongFalsely : Prop := readProgramsRow.holds Tryz.pinned (OpenSpec.ofChange readProgramsWrong)

/-- 'spinneylaw06.ReadQueries': WHATEVER THE INPUT: true; the input reads as it did. -/
def readQueriesSpec : ChangeSpec := { name := "readQueries", fn := fun _ => fun
  | [d] => { results := [.lit (.bool true)], args := [d] }
  | _ => none }
def readQueriesRow : OpenClaim := { program := "ytlbdocdjijhkbaagreatdoor", sum := "56e2a5d69e9b0bd5389d22f9f3717bea2f00a9cc4fc8a4975404cdacfad5e513", func := "spinney/spinneylaw06.ReadQueries", spec := "readQueries", inPlace := ["internal/bytealg.IndexByteString", "internal/bytealg.IndexString"], unfollowed := true, recurses := true, named := ["internal/bytealg.MaxLen", "unicode/utf8.first", "unicode/utf8.acceptRanges"], apart := false, laid := [("unicode/utf8.acceptRanges", laid_unicode_utf8_acceptRanges), ("unicode/utf8.first", laid_unicode_utf8_first)] }
def ReadQueriesSaid : Prop := readQueriesRow.holds Tryz.pinned (OpenSpec.ofChange readQueriesSpec)

/-- ITS FALSE NEIGHBOUR: 'it returns false'. Refute it at one input. -/
def readQueriesWrong : ChangeSpec := { name := "readQueries", fn := fun _ => fun
  | [d] => { results := [.lit (.bool false)], args := [d] }
  | _ => none }
def ReadQueriesWrongFalsely : Prop := readQueriesRow.holds Tryz.pinned (OpenSpec.ofChange readQueriesWrong)

/-- 'spinneylaw06.ReadJoins': WHATEVER THE INPUT: true; the input reads as it did. -/
def readJoinsSpec : ChangeSpec := { name := "readJoins", fn := fun _ => fun
  | [d1, d2] => { results := [.lit (.bool true)], args := [d1, d2] }
  | _ => none }
def readJoinsRow : OpenClaim := { program := "ytlbdocdjijhkbaagreatdoor", sum := "56e2a5d69e9b0bd5389d22f9f3717bea2f00a9cc4fc8a4975404cdacfad5e513", func := "spinney/spinneylaw06.ReadJoins", spec := "readJoins", inPlace := ["internal/bytealg.IndexByteString", "internal/bytealg.IndexString"], unfollowed := true, recurses := true, named := ["internal/bytealg.MaxLen", "unicode/utf8.first", "unicode/utf8.acceptRanges"], apart := false, laid := [("unicode/utf8.acceptRanges", laid_unicode_utf8_acceptRanges), ("unicode/utf8.first", laid_unicode_utf8_first)] }
def ReadJoinsSaid : Prop := readJoinsRow.holds Tryz.pinned (OpenSpec.ofChange readJoinsSpec)

/-- ITS FALSE NEIGHBOUR: 'it returns false'. Refute it at one input. -/
def readJoinsWrong : ChangeSpec := { name := "readJoins", fn := fun _ => fun
  | [d1, d2] => { results := [.lit (.bool false)], args := [d1, d2] }
  | _ => none }
def ReadJoinsWrongFalsely : Prop := readJoinsRow.holds Tryz.pinned (OpenSpec.ofChange readJoinsWrong)

/-- 'spinneylaw06.ReadBrackets': WHATEVER THE INPUT: true; the input reads as it did. -/
def readBracketsSpec : ChangeSpec := { name := "readBrackets", fn := fun _ => fun
  | [d] => { results := [.lit (.bool true)], args := [d] }
  | _ => none }
def readBracketsRow : OpenClaim := { program := "ytlbdocdjijhkbaagreatdoor", sum := "56e2a5d69e9b0bd5389d22f9f3717bea2f00a9cc4fc8a4975404cdacfad5e513", func := "spinney/spinneylaw06.ReadBrackets", spec := "readBrackets", inPlace := ["internal/bytealg.IndexByteString", "internal/bytealg.IndexString"], unfollowed := true, recurses := true, named := ["internal/bytealg.MaxLen", "unicode/utf8.first", "unicode/utf8.acceptRanges"], apart := false, laid := [("unicode/utf8.acceptRanges", laid_unicode_utf8_acceptRanges), ("unicode/utf8.first", laid_unicode_utf8_first)] }
def ReadBracketsSaid : Prop := readBracketsRow.holds Tryz.pinned (OpenSpec.ofChange readBracketsSpec)

/-- ITS FALSE NEIGHBOUR: 'it returns false'. Refute it at one input. -/
def readBracketsWrong : ChangeSpec := { name := "readBrackets", fn := fun _ => fun
  | [d] => { results := [.lit (.bool false)], args := [d] }
  | _ => none }
def ReadBracketsWrongFalsely : Prop := readBracketsRow.holds Tryz.pinned (OpenSpec.ofChange readBracketsWrong)

/-- 'spinneylaw06.ReadNumbers': WHATEVER THE INPUT: true; the input reads as it did. -/
def readNumbersSpec : ChangeSpec := { name := "readNumbers", fn := fun _ => fun
  | [d] => { results := [.lit (.bool true)], args := [d] }
  | _ => none }
def readNumbersRow : OpenClaim := { program := "ytlbdocdjijhkbaagreatdoor", sum := "56e2a5d69e9b0bd5389d22f9f3717bea2f00a9cc4fc8a4975404cdacfad5e513", func := "spinney/spinneylaw06.ReadNumbers", spec := "readNumbers", inPlace := ["internal/bytealg.IndexByteString", "internal/bytealg.IndexString"], unfollowed := true, recurses := true, named := ["internal/bytealg.MaxLen", "unicode/utf8.first", "unicode/utf8.acceptRanges"], apart := false, laid := [("unicode/utf8.acceptRanges", laid_unicode_utf8_acceptRanges), ("unicode/utf8.first", laid_unicode_utf8_first)] }
def ReadNumbersSaid : Prop := readNumbersRow.holds Tryz.pinned (OpenSpec.ofChange readNumbersSpec)

/-- ITS FALSE NEIGHBOUR: 'it returns false'. Refute it at one input. -/
def readNumbersWrong : ChangeSpec := { name := "readNumbers", fn := fun _ => fun
  | [d] => { results := [.lit (.bool false)], args := [d] }
  | _ => none }
def ReadNumbersWrongFalsely : Prop := readNumbersRow.holds Tryz.pinned (OpenSpec.ofChange readNumbersWrong)

/-- 'spinneylaw06.ReadAtoms': WHATEVER THE INPUT: true; the input reads as it did. -/
def readAtomsSpec : ChangeSpec := { name := "readAtoms", fn := fun _ => fun
  | [d] => { results := [.lit (.bool true)], args := [d] }
  | _ => none }
def readAtomsRow : OpenClaim := { program := "ytlbdocdjijhkbaagreatdoor", sum := "56e2a5d69e9b0bd5389d22f9f3717bea2f00a9cc4fc8a4975404cdacfad5e513", func := "spinney/spinneylaw06.ReadAtoms", spec := "readAtoms", inPlace := ["internal/bytealg.IndexByteString", "internal/bytealg.IndexString"], unfollowed := true, recurses := true, named := ["internal/bytealg.MaxLen", "unicode/utf8.first", "unicode/utf8.acceptRanges"], apart := false, laid := [("unicode/utf8.acceptRanges", laid_unicode_utf8_acceptRanges), ("unicode/utf8.first", laid_unicode_utf8_first)] }
def ReadAtomsSaid : Prop := readAtomsRow.holds Tryz.pinned (OpenSpec.ofChange readAtomsSpec)

/-- ITS FALSE NEIGHBOUR: 'it returns false'. Refute it at one input. -/
def readAtomsWrong : ChangeSpec := { name := "readAtoms", fn := fun _ => fun
  | [d] => { results := [.lit (.bool false)], args := [d] }
  | _ => none }
def ReadAtomsWrongFalsely : Prop := readAtomsRow.holds Tryz.pinned (OpenSpec.ofChange readAtomsWrong)

/-- 'spinneylaw06.ReadLists': WHATEVER THE INPUT: true; the input reads as it did. -/
def readListsSpec : ChangeSpec := { name := "readLists", fn := fun _ => fun
  | [d] => { results := [.lit (.bool true)], args := [d] }
  | _ => none }
def readListsRow : OpenClaim := { program := "ytlbdocdjijhkbaagreatdoor", sum := "56e2a5d69e9b0bd5389d22f9f3717bea2f00a9cc4fc8a4975404cdacfad5e513", func := "spinney/spinneylaw06.ReadLists", spec := "readLists", inPlace := ["internal/bytealg.IndexByteString", "internal/bytealg.IndexString"], unfollowed := true, recurses := true, named := ["internal/bytealg.MaxLen", "unicode/utf8.first", "unicode/utf8.acceptRanges"], apart := false, laid := [("unicode/utf8.acceptRanges", laid_unicode_utf8_acceptRanges), ("unicode/utf8.first", laid_unicode_utf8_first)] }
def ReadListsSaid : Prop := readListsRow.holds Tryz.pinned (OpenSpec.ofChange readListsSpec)

/-- ITS FALSE NEIGHBOUR: 'it returns false'. Refute it at one input. -/
def readListsWrong : ChangeSpec := { name := "readLists", fn := fun _ => fun
  | [d] => { results := [.lit (.bool false)], args := [d] }
  | _ => none }
def ReadListsWrongFalsely : Prop := readListsRow.holds Tryz.pinned (OpenSpec.ofChange readListsWrong)

/- THE SECOND FORM. 'bulk': how many values and letters a reading holds, each counted each time it is reached (what is shared counts as often as it is met; a slice's spare places count too). A statement '..UptoSaid' is the law's where the arguments, and the package variables that the reading takes, are together of bulk at most 1048576: NARROWER than '..Said'. Prove '..Said' where nothing that the law and all that it calls make is longer than what came in: it says more and counts as full. Else prove '..UptoSaid'. A law counts once. -/
mutual
def uptoBulk {H : Type} : DataW H → Nat
  | .lit (.string bytes) => bytes.length + 1
  | .lit _ => 1
  | .nil => 1
  | .ptr d => uptoBulk d + 1
  | .slice elems spare => uptoBulkAll elems + uptoBulkAll spare + 1
  | .agg parts => uptoBulkAll parts + 1
  | .iface _ d => uptoBulk d + 1
  | .map entries => uptoBulkEntries entries + 1
  | .held _ => 1
def uptoBulkAll {H : Type} : List (DataW H) → Nat
  | [] => 0
  | d :: r => uptoBulk d + uptoBulkAll r
def uptoBulkEntries {H : Type} : List (Lit × DataW H) → Nat
  | [] => 0
  | x :: r => uptoBulkEntry x + uptoBulkEntries r
def uptoBulkEntry {H : Type} : Lit × DataW H → Nat
  | (.string bytes, d) => bytes.length + uptoBulk d + 1
  | (_, d) => uptoBulk d + 1
 end
def uptoSmall : (H : Type) → List (DataW H) → Bool := fun _ ds => decide (uptoBulkAll ds ≤ 1048576)
def OpenSpec.upto (s : _root_.Go.ChangeSpec) : _root_.Go.OpenSpec := { _root_.Go.OpenSpec.ofChange s with cond := some uptoSmall }

/-- 'spinneylaw06.ReadPrograms', WHERE WHAT IT READS IS OF BULK AT MOST 1048576: true; the input reads as it did. -/
def readProgramsUptoRow : OpenClaim := { program := "ytlbdocdjijhkbaagreatdoor", sum := "56e2a5d69e9b0bd5389d22f9f3717bea2f00a9cc4fc8a4975404cdacfad5e513", func := "spinney/spinneylaw06.ReadPrograms", spec := "readPrograms", inPlace := ["internal/bytealg.IndexByteString", "internal/bytealg.IndexString"], unfollowed := true, recurses := true, named := ["internal/bytealg.MaxLen", "unicode/utf8.first", "unicode/utf8.acceptRanges"], apart := false, laid := [("unicode/utf8.acceptRanges", laid_unicode_utf8_acceptRanges), ("unicode/utf8.first", laid_unicode_utf8_first)], narrowed := true }
def ReadProgramsUptoSaid : Prop := readProgramsUptoRow.holds Tryz.pinned (OpenSpec.upto readProgramsSpec)

/-- 'spinneylaw06.ReadQueries', WHERE WHAT IT READS IS OF BULK AT MOST 1048576: true; the input reads as it did. -/
def readQueriesUptoRow : OpenClaim := { program := "ytlbdocdjijhkbaagreatdoor", sum := "56e2a5d69e9b0bd5389d22f9f3717bea2f00a9cc4fc8a4975404cdacfad5e513", func := "spinney/spinneylaw06.ReadQueries", spec := "readQueries", inPlace := ["internal/bytealg.IndexByteString", "internal/bytealg.IndexString"], unfollowed := true, recurses := true, named := ["internal/bytealg.MaxLen", "unicode/utf8.first", "unicode/utf8.acceptRanges"], apart := false, laid := [("unicode/utf8.acceptRanges", laid_unicode_utf8_acceptRanges), ("unicode/utf8.first", laid_unicode_utf8_first)], narrowed := true }
def ReadQueriesUptoSaid : Prop := readQueriesUptoRow.holds Tryz.pinned (OpenSpec.upto readQueriesSpec)

/-- 'spinneylaw06.ReadJoins', WHERE WHAT IT READS IS OF BULK AT MOST 1048576: true; the input reads as it did. -/
def readJoinsUptoRow : OpenClaim := { program := "ytlbdocdjijhkbaagreatdoor", sum := "56e2a5d69e9b0bd5389d22f9f3717bea2f00a9cc4fc8a4975404cdacfad5e513", func := "spinney/spinneylaw06.ReadJoins", spec := "readJoins", inPlace := ["internal/bytealg.IndexByteString", "internal/bytealg.IndexString"], unfollowed := true, recurses := true, named := ["internal/bytealg.MaxLen", "unicode/utf8.first", "unicode/utf8.acceptRanges"], apart := false, laid := [("unicode/utf8.acceptRanges", laid_unicode_utf8_acceptRanges), ("unicode/utf8.first", laid_unicode_utf8_first)], narrowed := true }
def ReadJoinsUptoSaid : Prop := readJoinsUptoRow.holds Tryz.pinned (OpenSpec.upto readJoinsSpec)

/-- 'spinneylaw06.ReadBrackets', WHERE WHAT IT READS IS OF BULK AT MOST 1048576: true; the input reads as it did. -/
def readBracketsUptoRow : OpenClaim := { program := "ytlbdocdjijhkbaagreatdoor", sum := "56e2a5d69e9b0bd5389d22f9f3717bea2f00a9cc4fc8a4975404cdacfad5e513", func := "spinney/spinneylaw06.ReadBrackets", spec := "readBrackets", inPlace := ["internal/bytealg.IndexByteString", "internal/bytealg.IndexString"], unfollowed := true, recurses := true, named := ["internal/bytealg.MaxLen", "unicode/utf8.first", "unicode/utf8.acceptRanges"], apart := false, laid := [("unicode/utf8.acceptRanges", laid_unicode_utf8_acceptRanges), ("unicode/utf8.first", laid_unicode_utf8_first)], narrowed := true }
def ReadBracketsUptoSaid : Prop := readBracketsUptoRow.holds Tryz.pinned (OpenSpec.upto readBracketsSpec)

/-- 'spinneylaw06.ReadNumbers', WHERE WHAT IT READS IS OF BULK AT MOST 1048576: true; the input reads as it did. -/
def readNumbersUptoRow : OpenClaim := { program := "ytlbdocdjijhkbaagreatdoor", sum := "56e2a5d69e9b0bd5389d22f9f3717bea2f00a9cc4fc8a4975404cdacfad5e513", func := "spinney/spinneylaw06.ReadNumbers", spec := "readNumbers", inPlace := ["internal/bytealg.IndexByteString", "internal/bytealg.IndexString"], unfollowed := true, recurses := true, named := ["internal/bytealg.MaxLen", "unicode/utf8.first", "unicode/utf8.acceptRanges"], apart := false, laid := [("unicode/utf8.acceptRanges", laid_unicode_utf8_acceptRanges), ("unicode/utf8.first", laid_unicode_utf8_first)], narrowed := true }
def ReadNumbersUptoSaid : Prop := readNumbersUptoRow.holds Tryz.pinned (OpenSpec.upto readNumbersSpec)

/-- 'spinneylaw06.ReadAtoms', WHERE WHAT IT READS IS OF BULK AT MOST 1048576: true; the input reads as it did. -/
def readAtomsUptoRow : OpenClaim := { program := "ytlbdocdjijhkbaagreatdoor", sum := "56e2a5d69e9b0bd5389d22f9f3717bea2f00a9cc4fc8a4975404cdacfad5e513", func := "spinney/spinneylaw06.ReadAtoms", spec := "readAtoms", inPlace := ["internal/bytealg.IndexByteString", "internal/bytealg.IndexString"], unfollowed := true, recurses := true, named := ["internal/bytealg.MaxLen", "unicode/utf8.first", "unicode/utf8.acceptRanges"], apart := false, laid := [("unicode/utf8.acceptRanges", laid_unicode_utf8_acceptRanges), ("unicode/utf8.first", laid_unicode_utf8_first)], narrowed := true }
def ReadAtomsUptoSaid : Prop := readAtomsUptoRow.holds Tryz.pinned (OpenSpec.upto readAtomsSpec)

/-- 'spinneylaw06.ReadLists', WHERE WHAT IT READS IS OF BULK AT MOST 1048576: true; the input reads as it did. -/
def readListsUptoRow : OpenClaim := { program := "ytlbdocdjijhkbaagreatdoor", sum := "56e2a5d69e9b0bd5389d22f9f3717bea2f00a9cc4fc8a4975404cdacfad5e513", func := "spinney/spinneylaw06.ReadLists", spec := "readLists", inPlace := ["internal/bytealg.IndexByteString", "internal/bytealg.IndexString"], unfollowed := true, recurses := true, named := ["internal/bytealg.MaxLen", "unicode/utf8.first", "unicode/utf8.acceptRanges"], apart := false, laid := [("unicode/utf8.acceptRanges", laid_unicode_utf8_acceptRanges), ("unicode/utf8.first", laid_unicode_utf8_first)], narrowed := true }
def ReadListsUptoSaid : Prop := readListsUptoRow.holds Tryz.pinned (OpenSpec.upto readListsSpec)

end Rows
end Go.Proofs.YtlbdocdjijhkbaaGreatDoor
