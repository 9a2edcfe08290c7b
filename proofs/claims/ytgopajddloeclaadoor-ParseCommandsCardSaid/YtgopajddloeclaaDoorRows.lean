/-
  NARROWER THAN 'FOR EVERY INPUT', by the rows' own cells (each row's printed sentence says how): ParseCommands: laid · ParseAgain: laid · ParseWrites: laid · ParseTransactions: laid · ParseOthers: laid · ParseSavepoints: laid · ParseValues: laid.
  DERIVED. THE GIVEN ROWS OF THIS SEAT. 7 by the template 'for every input the law returns true; each argument reads behind the call as it read before'; 0 by the template 'total and deterministic' (their statements: YtgopajddloeclaaDoorTotals.lean).
  GIVEN WITH THE SEED: the statements are not yours to turn. If you find one false, say at which input.
  Laid BY PROGRAM, IN A SANDBOX (cutbox-rows.mjs): the forced cells as the released guide's own fill.sh prints them over the translation b0404ccdf6c4da9c… (all of the seat's roots in one cut). By AI agents, Wed Nov 11 2026. No macro, syntax, notation, axiom, sorry.
-/
import Derived.Test.YtgopajddloeclaaDoorChecked
import GoSem.PinnedTables
import GoSem.Claim
import GoSem.ClaimJoined
import GoSem.ClaimMapViews
import Derived.JoinedTies
import Derived.KernelRfl
namespace Go.Proofs.YtgopajddloeclaaDoor
/- THE CELL 'sum', in the pinned program and in every row, IS THE sha256 OF THE DUMP (.gsa) THAT YtgopajddloeclaaDoorProg.lean LOADS. Nothing in Lean hashes anything: it is a label: what it is worth is what the hold of that sum in a sandbox is worth. -/
noncomputable def Tryd.pinned : Pinned := { name := "ytgopajddloeclaadoor", sum := "b0404ccdf6c4da9c8507b0449ee5ab6bedbdfd46c4b6ccde495c24cc219d6a20", checked := Tryd.checked }
namespace Rows
def none {H : Type} : Left H := { results := [], args := [] }

/- WHAT THE LISTED PACKAGE-LEVEL VARIABLES READ AS WHEN THE CALL BEGINS. Each datum BY PROGRAM (the guide's laid-datum.mjs) off the statement by which the dump's own 'gosem.cut.vars' lays the variable. In a bare row this is a premise. The card (YtgopajddloeclaaDoorCards.lean) ties it to the program's text. -/
def laid_taxirank_parse_barred {H : Type} : DataW H := .agg [.lit (.string [115, 101, 116]), .lit (.string [114, 101, 115, 101, 116]), .lit (.string [100, 105, 115, 99, 97, 114, 100]), .lit (.string [98, 101, 103, 105, 110]), .lit (.string [115, 116, 97, 114, 116]), .lit (.string [99, 111, 109, 109, 105, 116]), .lit (.string [101, 110, 100]), .lit (.string [114, 111, 108, 108, 98, 97, 99, 107]), .lit (.string [97, 98, 111, 114, 116]), .lit (.string [115, 97, 118, 101, 112, 111, 105, 110, 116]), .lit (.string [114, 101, 108, 101, 97, 115, 101]), .lit (.string [115, 104, 111, 119]), .lit (.string [108, 105, 115, 116, 101, 110]), .lit (.string [117, 110, 108, 105, 115, 116, 101, 110]), .lit (.string [112, 114, 101, 112, 97, 114, 101]), .lit (.string [101, 120, 101, 99, 117, 116, 101]), .lit (.string [100, 101, 97, 108, 108, 111, 99, 97, 116, 101]), .lit (.string [100, 101, 99, 108, 97, 114, 101]), .lit (.string [108, 111, 97, 100]), .lit (.string [99, 111, 112, 121])]
def laid_unicode_utf8_acceptRanges {H : Type} : DataW H := .agg [.agg [.lit (.int .u8 128), .lit (.int .u8 191)], .agg [.lit (.int .u8 160), .lit (.int .u8 191)], .agg [.lit (.int .u8 128), .lit (.int .u8 159)], .agg [.lit (.int .u8 144), .lit (.int .u8 191)], .agg [.lit (.int .u8 128), .lit (.int .u8 143)], .agg [.lit (.int .u8 0), .lit (.int .u8 0)], .agg [.lit (.int .u8 0), .lit (.int .u8 0)], .agg [.lit (.int .u8 0), .lit (.int .u8 0)], .agg [.lit (.int .u8 0), .lit (.int .u8 0)], .agg [.lit (.int .u8 0), .lit (.int .u8 0)], .agg [.lit (.int .u8 0), .lit (.int .u8 0)], .agg [.lit (.int .u8 0), .lit (.int .u8 0)], .agg [.lit (.int .u8 0), .lit (.int .u8 0)], .agg [.lit (.int .u8 0), .lit (.int .u8 0)], .agg [.lit (.int .u8 0), .lit (.int .u8 0)], .agg [.lit (.int .u8 0), .lit (.int .u8 0)]]
/-- One of Go's own tables, pinned by name: the form's constant. -/
def laid_unicode_utf8_first : DataW Unit := Go.Pinned.utf8First
def laid_taxirank_names_taken {H : Type} : DataW H := .agg [.lit (.string [97, 108, 108]), .lit (.string [100, 101, 102, 97, 117, 108, 116]), .lit (.string [102, 114, 111, 109]), .lit (.string [108, 111, 99, 97, 108]), .lit (.string [111, 110]), .lit (.string [115, 101, 115, 115, 105, 111, 110]), .lit (.string [116, 111]), .lit (.string [111, 102, 102]), .lit (.string [116, 114, 117, 101]), .lit (.string [102, 97, 108, 115, 101])]

/-- 'taxiranklaw9.ParseCommands': WHATEVER THE INPUT: true; the input reads as it did. -/
def parseCommandsSpec : ChangeSpec := { name := "parseCommands", fn := fun _ => fun
  | [d1, d2] => { results := [.lit (.bool true)], args := [d1, d2] }
  | _ => none }
def parseCommandsRow : OpenClaim := { program := "ytgopajddloeclaadoor", sum := "b0404ccdf6c4da9c8507b0449ee5ab6bedbdfd46c4b6ccde495c24cc219d6a20", func := "taxirank/taxiranklaw9.ParseCommands", spec := "parseCommands", inPlace := ["internal/bytealg.IndexByteString", "internal/bytealg.IndexString"], unfollowed := true, recurses := true, named := ["internal/bytealg.MaxLen", "taxirank/parse.barred"], apart := false, laid := [("taxirank/parse.barred", laid_taxirank_parse_barred)] }
def ParseCommandsSaid : Prop := parseCommandsRow.holds Tryd.pinned (OpenSpec.ofChange parseCommandsSpec)

/-- ITS FALSE NEIGHBOUR: 'it returns false'. Refute it at one input. -/
def parseCommandsWrong : ChangeSpec := { name := "parseCommands", fn := fun _ => fun
  | [d1, d2] => { results := [.lit (.bool false)], args := [d1, d2] }
  | _ => none }
def ParseCommandsWrongFalsely : Prop := parseCommandsRow.holds Tryd.pinned (OpenSpec.ofChange parseCommandsWrong)

/-- 'taxiranklaw9.ParseAgain': WHATEVER THE INPUT: true; the input reads as it did. -/
def parseAgainSpec : ChangeSpec := { name := "parseAgain", fn := fun _ => fun
  | [d1, d2] => { results := [.lit (.bool true)], args := [d1, d2] }
  | _ => none }
def parseAgainRow : OpenClaim := { program := "ytgopajddloeclaadoor", sum := "b0404ccdf6c4da9c8507b0449ee5ab6bedbdfd46c4b6ccde495c24cc219d6a20", func := "taxirank/taxiranklaw9.ParseAgain", spec := "parseAgain", inPlace := ["internal/bytealg.IndexByteString", "internal/bytealg.IndexString", "internal/abi.NoEscape", "internal/bytealg.CountString", "internal/bytealg.MakeNoZero"], unfollowed := true, recurses := true, named := ["internal/bytealg.MaxLen", "taxirank/parse.barred", "unicode/utf8.first", "unicode/utf8.acceptRanges"], apart := false, laid := [("unicode/utf8.acceptRanges", laid_unicode_utf8_acceptRanges), ("taxirank/parse.barred", laid_taxirank_parse_barred), ("unicode/utf8.first", laid_unicode_utf8_first)] }
def ParseAgainSaid : Prop := parseAgainRow.holds Tryd.pinned (OpenSpec.ofChange parseAgainSpec)

/-- ITS FALSE NEIGHBOUR: 'it returns false'. Refute it at one input. -/
def parseAgainWrong : ChangeSpec := { name := "parseAgain", fn := fun _ => fun
  | [d1, d2] => { results := [.lit (.bool false)], args := [d1, d2] }
  | _ => none }
def ParseAgainWrongFalsely : Prop := parseAgainRow.holds Tryd.pinned (OpenSpec.ofChange parseAgainWrong)

/-- 'taxiranklaw9.ParseWrites': WHATEVER THE INPUT: true; the input reads as it did. -/
def parseWritesSpec : ChangeSpec := { name := "parseWrites", fn := fun _ => fun
  | [d1, d2, d3] => { results := [.lit (.bool true)], args := [d1, d2, d3] }
  | _ => none }
def parseWritesRow : OpenClaim := { program := "ytgopajddloeclaadoor", sum := "b0404ccdf6c4da9c8507b0449ee5ab6bedbdfd46c4b6ccde495c24cc219d6a20", func := "taxirank/taxiranklaw9.ParseWrites", spec := "parseWrites", inPlace := ["internal/bytealg.IndexByteString", "internal/bytealg.IndexString", "internal/bytealg.CountString", "internal/abi.NoEscape", "internal/bytealg.MakeNoZero"], unfollowed := true, recurses := true, named := ["internal/bytealg.MaxLen", "taxirank/parse.barred", "taxirank/names.taken", "unicode/utf8.first", "unicode/utf8.acceptRanges"], apart := false, laid := [("unicode/utf8.acceptRanges", laid_unicode_utf8_acceptRanges), ("taxirank/names.taken", laid_taxirank_names_taken), ("taxirank/parse.barred", laid_taxirank_parse_barred), ("unicode/utf8.first", laid_unicode_utf8_first)] }
def ParseWritesSaid : Prop := parseWritesRow.holds Tryd.pinned (OpenSpec.ofChange parseWritesSpec)

/-- ITS FALSE NEIGHBOUR: 'it returns false'. Refute it at one input. -/
def parseWritesWrong : ChangeSpec := { name := "parseWrites", fn := fun _ => fun
  | [d1, d2, d3] => { results := [.lit (.bool false)], args := [d1, d2, d3] }
  | _ => none }
def ParseWritesWrongFalsely : Prop := parseWritesRow.holds Tryd.pinned (OpenSpec.ofChange parseWritesWrong)

/-- 'taxiranklaw9.ParseTransactions': WHATEVER THE INPUT: true; the input reads as it did. -/
def parseTransactionsSpec : ChangeSpec := { name := "parseTransactions", fn := fun _ => fun
  | [d1, d2, d3] => { results := [.lit (.bool true)], args := [d1, d2, d3] }
  | _ => none }
def parseTransactionsRow : OpenClaim := { program := "ytgopajddloeclaadoor", sum := "b0404ccdf6c4da9c8507b0449ee5ab6bedbdfd46c4b6ccde495c24cc219d6a20", func := "taxirank/taxiranklaw9.ParseTransactions", spec := "parseTransactions", inPlace := ["internal/bytealg.IndexByteString", "internal/bytealg.IndexString"], unfollowed := true, recurses := true, named := ["internal/bytealg.MaxLen", "taxirank/parse.barred"], apart := false, laid := [("taxirank/parse.barred", laid_taxirank_parse_barred)] }
def ParseTransactionsSaid : Prop := parseTransactionsRow.holds Tryd.pinned (OpenSpec.ofChange parseTransactionsSpec)

/-- ITS FALSE NEIGHBOUR: 'it returns false'. Refute it at one input. -/
def parseTransactionsWrong : ChangeSpec := { name := "parseTransactions", fn := fun _ => fun
  | [d1, d2, d3] => { results := [.lit (.bool false)], args := [d1, d2, d3] }
  | _ => none }
def ParseTransactionsWrongFalsely : Prop := parseTransactionsRow.holds Tryd.pinned (OpenSpec.ofChange parseTransactionsWrong)

/-- 'taxiranklaw9.ParseOthers': WHATEVER THE INPUT: true; the input reads as it did. -/
def parseOthersSpec : ChangeSpec := { name := "parseOthers", fn := fun _ => fun
  | [d1, d2] => { results := [.lit (.bool true)], args := [d1, d2] }
  | _ => none }
def parseOthersRow : OpenClaim := { program := "ytgopajddloeclaadoor", sum := "b0404ccdf6c4da9c8507b0449ee5ab6bedbdfd46c4b6ccde495c24cc219d6a20", func := "taxirank/taxiranklaw9.ParseOthers", spec := "parseOthers", inPlace := ["internal/bytealg.IndexByteString", "internal/bytealg.IndexString"], unfollowed := true, recurses := true, named := ["internal/bytealg.MaxLen", "taxirank/parse.barred"], apart := false, laid := [("taxirank/parse.barred", laid_taxirank_parse_barred)] }
def ParseOthersSaid : Prop := parseOthersRow.holds Tryd.pinned (OpenSpec.ofChange parseOthersSpec)

/-- ITS FALSE NEIGHBOUR: 'it returns false'. Refute it at one input. -/
def parseOthersWrong : ChangeSpec := { name := "parseOthers", fn := fun _ => fun
  | [d1, d2] => { results := [.lit (.bool false)], args := [d1, d2] }
  | _ => none }
def ParseOthersWrongFalsely : Prop := parseOthersRow.holds Tryd.pinned (OpenSpec.ofChange parseOthersWrong)

/-- 'taxiranklaw9.ParseSavepoints': WHATEVER THE INPUT: true; the input reads as it did. -/
def parseSavepointsSpec : ChangeSpec := { name := "parseSavepoints", fn := fun _ => fun
  | [d1, d2, d3] => { results := [.lit (.bool true)], args := [d1, d2, d3] }
  | _ => none }
def parseSavepointsRow : OpenClaim := { program := "ytgopajddloeclaadoor", sum := "b0404ccdf6c4da9c8507b0449ee5ab6bedbdfd46c4b6ccde495c24cc219d6a20", func := "taxirank/taxiranklaw9.ParseSavepoints", spec := "parseSavepoints", inPlace := ["internal/bytealg.IndexByteString", "internal/bytealg.IndexString", "internal/abi.NoEscape", "internal/bytealg.CountString", "internal/bytealg.MakeNoZero"], unfollowed := true, recurses := true, named := ["internal/bytealg.MaxLen", "taxirank/parse.barred", "unicode/utf8.first", "unicode/utf8.acceptRanges"], apart := false, laid := [("unicode/utf8.acceptRanges", laid_unicode_utf8_acceptRanges), ("taxirank/parse.barred", laid_taxirank_parse_barred), ("unicode/utf8.first", laid_unicode_utf8_first)] }
def ParseSavepointsSaid : Prop := parseSavepointsRow.holds Tryd.pinned (OpenSpec.ofChange parseSavepointsSpec)

/-- ITS FALSE NEIGHBOUR: 'it returns false'. Refute it at one input. -/
def parseSavepointsWrong : ChangeSpec := { name := "parseSavepoints", fn := fun _ => fun
  | [d1, d2, d3] => { results := [.lit (.bool false)], args := [d1, d2, d3] }
  | _ => none }
def ParseSavepointsWrongFalsely : Prop := parseSavepointsRow.holds Tryd.pinned (OpenSpec.ofChange parseSavepointsWrong)

/-- 'taxiranklaw9.ParseValues': WHATEVER THE INPUT: true; the input reads as it did. -/
def parseValuesSpec : ChangeSpec := { name := "parseValues", fn := fun _ => fun
  | [d1, d2] => { results := [.lit (.bool true)], args := [d1, d2] }
  | _ => none }
def parseValuesRow : OpenClaim := { program := "ytgopajddloeclaadoor", sum := "b0404ccdf6c4da9c8507b0449ee5ab6bedbdfd46c4b6ccde495c24cc219d6a20", func := "taxirank/taxiranklaw9.ParseValues", spec := "parseValues", inPlace := ["internal/bytealg.IndexByteString", "internal/bytealg.IndexString", "internal/abi.NoEscape", "internal/bytealg.CountString", "internal/bytealg.MakeNoZero"], unfollowed := true, recurses := true, named := ["internal/bytealg.MaxLen", "taxirank/parse.barred", "unicode/utf8.first", "unicode/utf8.acceptRanges"], apart := false, laid := [("unicode/utf8.acceptRanges", laid_unicode_utf8_acceptRanges), ("taxirank/parse.barred", laid_taxirank_parse_barred), ("unicode/utf8.first", laid_unicode_utf8_first)] }
def ParseValuesSaid : Prop := parseValuesRow.holds Tryd.pinned (OpenSpec.ofChange parseValuesSpec)

/-- ITS FALSE NEIGHBOUR: 'it returns false'. Refute it at one input. -/
def parseValuesWrong : ChangeSpec := { name := "parseValues", fn := fun _ => fun
  | [d1, d2] => { results := [.lit (.bool false)], args := [d1, d2] }
  | _ => none }
def ParseValuesWrongFalsely : Prop := parseValuesRow.holds Tryd.pinned (OpenSpec.ofChange parseValuesWrong)

/- THE SECOND FORM. 'bulk': how many values and letters a reading holds, each counted each time it is reached (what is shared counts as often as it is met; a slice's spare places count too). A statement '..UptoSaid' is the law's where the arguments, and the package variables that the reading takes, are together of bulk at most 1048576: NARROWER than '..Said'. Prove '..Said' where nothing that the law and all that it calls make is longer than what came in: it says more and counts as full. Else prove '..UptoSaid'. A law counts once. -/
mutual
def uptoBulk {H : Type} : DataW H → Nat
  | .lit (.string bytes) => bytes.length + 1
  | .lit _ => 1
  | .nil => 1
  | .ptr d => uptoBulk d + 1
  | .slice elems spare => uptoBulkAll elems + uptoBulkAll spare + 1
  | .agg parts => uptoBulkAll parts + 1
  | .iface _ d => uptoBulk d + 1
  | .map entries => uptoBulkEntries entries + 1
  | .held _ => 1
def uptoBulkAll {H : Type} : List (DataW H) → Nat
  | [] => 0
  | d :: r => uptoBulk d + uptoBulkAll r
def uptoBulkEntries {H : Type} : List (Lit × DataW H) → Nat
  | [] => 0
  | x :: r => uptoBulkEntry x + uptoBulkEntries r
def uptoBulkEntry {H : Type} : Lit × DataW H → Nat
  | (.string bytes, d) => bytes.length + uptoBulk d + 1
  | (_, d) => uptoBulk d + 1
 end
def uptoSmall : (H : Type) → List (DataW H) → Bool := fun _ ds => decide (uptoBulkAll ds ≤ 1048576)
def OpenSpec.upto (s : _root_.Go.ChangeSpec) : _root_.Go.OpenSpec := { _root_.Go.OpenSpec.ofChange s with cond := some uptoSmall }

/-- 'taxiranklaw9.ParseCommands', WHERE WHAT IT READS IS OF BULK AT MOST 1048576: true; the input reads as it did. -/
def parseCommandsUptoRow : OpenClaim := { program := "ytgopajddloeclaadoor", sum := "b0404ccdf6c4da9c8507b0449ee5ab6bedbdfd46c4b6ccde495c24cc219d6a20", func := "taxirank/taxiranklaw9.ParseCommands", spec := "parseCommands", inPlace := ["internal/bytealg.IndexByteString", "internal/bytealg.IndexString"], unfollowed := true, recurses := true, named := ["internal/bytealg.MaxLen", "taxirank/parse.barred"], apart := false, laid := [("taxirank/parse.barred", laid_taxirank_parse_barred)], narrowed := true }
def ParseCommandsUptoSaid : Prop := parseCommandsUptoRow.holds Tryd.pinned (OpenSpec.upto parseCommandsSpec)

/-- 'taxiranklaw9.ParseAgain', WHERE WHAT IT READS IS OF BULK AT MOST 1048576: true; the input reads as it did. -/
def parseAgainUptoRow : OpenClaim := { program := "ytgopajddloeclaadoor", sum := "b0404ccdf6c4da9c8507b0449ee5ab6bedbdfd46c4b6ccde495c24cc219d6a20", func := "taxirank/taxiranklaw9.ParseAgain", spec := "parseAgain", inPlace := ["internal/bytealg.IndexByteString", "internal/bytealg.IndexString", "internal/abi.NoEscape", "internal/bytealg.CountString", "internal/bytealg.MakeNoZero"], unfollowed := true, recurses := true, named := ["internal/bytealg.MaxLen", "taxirank/parse.barred", "unicode/utf8.first", "unicode/utf8.acceptRanges"], apart := false, laid := [("unicode/utf8.acceptRanges", laid_unicode_utf8_acceptRanges), ("taxirank/parse.barred", laid_taxirank_parse_barred), ("unicode/utf8.first", laid_unicode_utf8_first)], narrowed := true }
def ParseAgainUptoSaid : Prop := parseAgainUptoRow.holds Tryd.pinned (OpenSpec.upto parseAgainSpec)

/-- 'taxiranklaw9.ParseWrites', WHERE WHAT IT READS IS OF BULK AT MOST 1048576: true; the input reads as it did. -/
def parseWritesUptoRow : OpenClaim := { program := "ytgopajddloeclaadoor", sum := "b0404ccdf6c4da9c8507b0449ee5ab6bedbdfd46c4b6ccde495c24cc219d6a20", func := "taxirank/taxiranklaw9.ParseWrites", spec := "parseWrites", inPlace := ["internal/bytealg.IndexByteString", "internal/bytealg.IndexString", "internal/bytealg.CountString", "internal/abi.NoEscape", "internal/bytealg.MakeNoZero"], unfollowed := true, recurses := true, named := ["internal/bytealg.MaxLen", "taxirank/parse.barred", "taxirank/names.taken", "unicode/utf8.first", "unicode/utf8.acceptRanges"], apart := false, laid := [("unicode/utf8.acceptRanges", laid_unicode_utf8_acceptRanges), ("taxirank/names.taken", laid_taxirank_names_taken), ("taxirank/parse.barred", laid_taxirank_parse_barred), ("unicode/utf8.first", laid_unicode_utf8_first)], narrowed := true }
def ParseWritesUptoSaid : Prop := parseWritesUptoRow.holds Tryd.pinned (OpenSpec.upto parseWritesSpec)

/-- 'taxiranklaw9.ParseTransactions', WHERE WHAT IT READS IS OF BULK AT MOST 1048576: true; the input reads as it did. -/
def parseTransactionsUptoRow : OpenClaim := { program := "ytgopajddloeclaadoor", sum := "b0404ccdf6c4da9c8507b0449ee5ab6bedbdfd46c4b6ccde495c24cc219d6a20", func := "taxirank/taxiranklaw9.ParseTransactions", spec := "parseTransactions", inPlace := ["internal/bytealg.IndexByteString", "internal/bytealg.IndexString"], unfollowed := true, recurses := true, named := ["internal/bytealg.MaxLen", "taxirank/parse.barred"], apart := false, laid := [("taxirank/parse.barred", laid_taxirank_parse_barred)], narrowed := true }
def ParseTransactionsUptoSaid : Prop := parseTransactionsUptoRow.holds Tryd.pinned (OpenSpec.upto parseTransactionsSpec)

/-- 'taxiranklaw9.ParseOthers', WHERE WHAT IT READS IS OF BULK AT MOST 1048576: true; the input reads as it did. -/
def parseOthersUptoRow : OpenClaim := { program := "ytgopajddloeclaadoor", sum := "b0404ccdf6c4da9c8507b0449ee5ab6bedbdfd46c4b6ccde495c24cc219d6a20", func := "taxirank/taxiranklaw9.ParseOthers", spec := "parseOthers", inPlace := ["internal/bytealg.IndexByteString", "internal/bytealg.IndexString"], unfollowed := true, recurses := true, named := ["internal/bytealg.MaxLen", "taxirank/parse.barred"], apart := false, laid := [("taxirank/parse.barred", laid_taxirank_parse_barred)], narrowed := true }
def ParseOthersUptoSaid : Prop := parseOthersUptoRow.holds Tryd.pinned (OpenSpec.upto parseOthersSpec)

/-- 'taxiranklaw9.ParseSavepoints', WHERE WHAT IT READS IS OF BULK AT MOST 1048576: true; the input reads as it did. -/
def parseSavepointsUptoRow : OpenClaim := { program := "ytgopajddloeclaadoor", sum := "b0404ccdf6c4da9c8507b0449ee5ab6bedbdfd46c4b6ccde495c24cc219d6a20", func := "taxirank/taxiranklaw9.ParseSavepoints", spec := "parseSavepoints", inPlace := ["internal/bytealg.IndexByteString", "internal/bytealg.IndexString", "internal/abi.NoEscape", "internal/bytealg.CountString", "internal/bytealg.MakeNoZero"], unfollowed := true, recurses := true, named := ["internal/bytealg.MaxLen", "taxirank/parse.barred", "unicode/utf8.first", "unicode/utf8.acceptRanges"], apart := false, laid := [("unicode/utf8.acceptRanges", laid_unicode_utf8_acceptRanges), ("taxirank/parse.barred", laid_taxirank_parse_barred), ("unicode/utf8.first", laid_unicode_utf8_first)], narrowed := true }
def ParseSavepointsUptoSaid : Prop := parseSavepointsUptoRow.holds Tryd.pinned (OpenSpec.upto parseSavepointsSpec)

/-- 'taxiranklaw9.ParseValues', WHERE WHAT IT READS IS OF BULK AT MOST 1048576: true; the input reads as it did. -/
def parseValuesUptoRow : OpenClaim := { program := "ytgopajddloeclaadoor", sum := "b0404ccdf6c4da9c8507b0449ee5ab6bedbdfd46c4b6ccde495c24cc219d6a20", func := "taxirank/taxiranklaw9.ParseValues", spec := "parseValues", inPlace := ["internal/bytealg.IndexByteString", "internal/bytealg.IndexString", "internal/abi.NoEscape", "internal/bytealg.CountString", "internal/bytealg.MakeNoZero"], unfollowed := true, recurses := true, named := ["internal/bytealg.MaxLen", "taxirank/parse.barred", "unicode/utf8.first", "unicode/utf8.acceptRanges"], apart := false, laid := [("unicode/utf8.acceptRanges", laid_unicode_utf8_acceptRanges), ("taxirank/parse.barred", laid_taxirank_parse_barred), ("unicode/utf8.first", laid_unicode_utf8_first)], narrowed := true }
def ParseValuesUptoSaid : Prop := parseValuesUptoRow.holds Tryd.pinned (OpenSpec.upto parseValuesSpec)

end Rows
end Go.Proofs.YtgopajddloeclaaDoor
