/-
  NARROWER THAN 'FOR EVERY INPUT', by the rows' own cells (each row's printed sentence says how): RenderApart: laid · RenderQueries: laid · RenderNames: laid.
  DERIVED. THE GIVEN ROWS OF THIS SEAT. 3 by the template 'for every input the law returns true; each argument reads behind the call as it read before'; 0 by the template 'total and deterministic' (their statements: YtpijolcklmdjbaaDoorTotals.lean).
  GIVEN WITH THE SEED: the statements are not yours to turn. If you find one false, say at which input.
  Laid BY PROGRAM, IN A SANDBOX (cutbox-rows.mjs): the forced cells as the released guide's own fill.sh prints them over the translation 40e6753d608e009a… (all of the seat's roots in one cut). By AI agents, Wed Nov 11 2026. No macro, syntax, notation, axiom, sorry.
-/
import Derived.Test.YtpijolcklmdjbaaDoorChecked
import GoSem.PinnedTables
import GoSem.Claim
import GoSem.ClaimJoined
import GoSem.ClaimMapViews
import Derived.JoinedTies
import Derived.KernelRfl
namespace Go.Proofs.YtpijolcklmdjbaaDoor
/- THE CELL 'sum', in the pinned program and in every row, IS THE sha256 OF THE DUMP (.gsa) THAT YtpijolcklmdjbaaDoorProg.lean LOADS. Nothing in Lean hashes anything: it is a label: what it is worth is what the hold of that sum in a sandbox is worth. -/
noncomputable def Tryd.pinned : Pinned := { name := "ytpijolcklmdjbaadoor", sum := "40e6753d608e009aeee4f6c43f8f949f8c933f4282f7a8341cf58d903cab72d0", checked := Tryd.checked }
namespace Rows
def none {H : Type} : Left H := { results := [], args := [] }

/- WHAT THE LISTED PACKAGE-LEVEL VARIABLES READ AS WHEN THE CALL BEGINS. Each datum BY PROGRAM (the guide's laid-datum.mjs) off the statement by which the dump's own 'gosem.cut.vars' lays the variable. In a bare row this is a premise. The card (YtpijolcklmdjbaaDoorCards.lean) ties it to the program's text. -/
def laid_unicode_utf8_acceptRanges {H : Type} : DataW H := .agg [.agg [.lit (.int .u8 128), .lit (.int .u8 191)], .agg [.lit (.int .u8 160), .lit (.int .u8 191)], .agg [.lit (.int .u8 128), .lit (.int .u8 159)], .agg [.lit (.int .u8 144), .lit (.int .u8 191)], .agg [.lit (.int .u8 128), .lit (.int .u8 143)], .agg [.lit (.int .u8 0), .lit (.int .u8 0)], .agg [.lit (.int .u8 0), .lit (.int .u8 0)], .agg [.lit (.int .u8 0), .lit (.int .u8 0)], .agg [.lit (.int .u8 0), .lit (.int .u8 0)], .agg [.lit (.int .u8 0), .lit (.int .u8 0)], .agg [.lit (.int .u8 0), .lit (.int .u8 0)], .agg [.lit (.int .u8 0), .lit (.int .u8 0)], .agg [.lit (.int .u8 0), .lit (.int .u8 0)], .agg [.lit (.int .u8 0), .lit (.int .u8 0)], .agg [.lit (.int .u8 0), .lit (.int .u8 0)], .agg [.lit (.int .u8 0), .lit (.int .u8 0)]]
def laid_taxirank_names_taken {H : Type} : DataW H := .agg [.lit (.string [97, 108, 108]), .lit (.string [100, 101, 102, 97, 117, 108, 116]), .lit (.string [102, 114, 111, 109]), .lit (.string [108, 111, 99, 97, 108]), .lit (.string [111, 110]), .lit (.string [115, 101, 115, 115, 105, 111, 110]), .lit (.string [116, 111]), .lit (.string [111, 102, 102]), .lit (.string [116, 114, 117, 101]), .lit (.string [102, 97, 108, 115, 101])]
/-- One of Go's own tables, pinned by name: the form's constant. -/
def laid_unicode_utf8_first : DataW Unit := Go.Pinned.utf8First

/-- 'taxiranklaw13.RenderApart': WHATEVER THE INPUT: true; the input reads as it did. -/
def renderApartSpec : ChangeSpec := { name := "renderApart", fn := fun _ => fun
  | [d1, d2] => { results := [.lit (.bool true)], args := [d1, d2] }
  | _ => none }
def renderApartRow : OpenClaim := { program := "ytpijolcklmdjbaadoor", sum := "40e6753d608e009aeee4f6c43f8f949f8c933f4282f7a8341cf58d903cab72d0", func := "taxirank/taxiranklaw13.RenderApart", spec := "renderApart", inPlace := ["internal/bytealg.IndexByteString", "internal/bytealg.IndexString", "internal/bytealg.CountString", "internal/abi.NoEscape", "internal/bytealg.MakeNoZero"], named := ["internal/bytealg.MaxLen", "unicode/utf8.first", "unicode/utf8.acceptRanges", "taxirank/names.taken"], apart := false, laid := [("unicode/utf8.acceptRanges", laid_unicode_utf8_acceptRanges), ("taxirank/names.taken", laid_taxirank_names_taken), ("unicode/utf8.first", laid_unicode_utf8_first)] }
def RenderApartSaid : Prop := renderApartRow.holds Tryd.pinned (OpenSpec.ofChange renderApartSpec)

/-- ITS FALSE NEIGHBOUR: 'it returns false'. Refute it at one input. -/
def renderApartWrong : ChangeSpec := { name := "renderApart", fn := fun _ => fun
  | [d1, d2] => { results := [.lit (.bool false)], args := [d1, d2] }
  | _ => none }
def RenderApartWrongFalsely : Prop := renderApartRow.holds Tryd.pinned (OpenSpec.ofChange renderApartWrong)

/-- 'taxiranklaw13.RenderQueries': WHATEVER THE INPUT: true; the input reads as it did. -/
def renderQueriesSpec : ChangeSpec := { name := "renderQueries", fn := fun _ => fun
  | [d1, d2] => { results := [.lit (.bool true)], args := [d1, d2] }
  | _ => none }
def renderQueriesRow : OpenClaim := { program := "ytpijolcklmdjbaadoor", sum := "40e6753d608e009aeee4f6c43f8f949f8c933f4282f7a8341cf58d903cab72d0", func := "taxirank/taxiranklaw13.RenderQueries", spec := "renderQueries", inPlace := ["internal/bytealg.IndexByteString", "internal/bytealg.IndexString", "internal/bytealg.CountString", "internal/abi.NoEscape", "internal/bytealg.MakeNoZero"], unfollowed := true, recurses := true, named := ["internal/bytealg.MaxLen", "unicode/utf8.first", "unicode/utf8.acceptRanges", "taxirank/names.taken"], apart := false, laid := [("unicode/utf8.acceptRanges", laid_unicode_utf8_acceptRanges), ("taxirank/names.taken", laid_taxirank_names_taken), ("unicode/utf8.first", laid_unicode_utf8_first)] }
def RenderQueriesSaid : Prop := renderQueriesRow.holds Tryd.pinned (OpenSpec.ofChange renderQueriesSpec)

/-- ITS FALSE NEIGHBOUR: 'it returns false'. Refute it at one input. -/
def renderQueriesWrong : ChangeSpec := { name := "renderQueries", fn := fun _ => fun
  | [d1, d2] => { results := [.lit (.bool false)], args := [d1, d2] }
  | _ => none }
def RenderQueriesWrongFalsely : Prop := renderQueriesRow.holds Tryd.pinned (OpenSpec.ofChange renderQueriesWrong)

/-- 'taxiranklaw13.RenderNames': WHATEVER THE INPUT: true; the input reads as it did. -/
def renderNamesSpec : ChangeSpec := { name := "renderNames", fn := fun _ => fun
  | [d] => { results := [.lit (.bool true)], args := [d] }
  | _ => none }
def renderNamesRow : OpenClaim := { program := "ytpijolcklmdjbaadoor", sum := "40e6753d608e009aeee4f6c43f8f949f8c933f4282f7a8341cf58d903cab72d0", func := "taxirank/taxiranklaw13.RenderNames", spec := "renderNames", inPlace := ["internal/bytealg.IndexByteString", "internal/bytealg.IndexString", "internal/bytealg.CountString", "internal/abi.NoEscape", "internal/bytealg.MakeNoZero"], unfollowed := true, recurses := true, named := ["internal/bytealg.MaxLen", "unicode/utf8.first", "unicode/utf8.acceptRanges", "taxirank/names.taken"], apart := false, laid := [("unicode/utf8.acceptRanges", laid_unicode_utf8_acceptRanges), ("taxirank/names.taken", laid_taxirank_names_taken), ("unicode/utf8.first", laid_unicode_utf8_first)] }
def RenderNamesSaid : Prop := renderNamesRow.holds Tryd.pinned (OpenSpec.ofChange renderNamesSpec)

/-- ITS FALSE NEIGHBOUR: 'it returns false'. Refute it at one input. -/
def renderNamesWrong : ChangeSpec := { name := "renderNames", fn := fun _ => fun
  | [d] => { results := [.lit (.bool false)], args := [d] }
  | _ => none }
def RenderNamesWrongFalsely : Prop := renderNamesRow.holds Tryd.pinned (OpenSpec.ofChange renderNamesWrong)

/- THE SECOND FORM. 'bulk': how many values and letters a reading holds, each counted each time it is reached (what is shared counts as often as it is met; a slice's spare places count too). A statement '..UptoSaid' is the law's where the arguments, and the package variables that the reading takes, are together of bulk at most 1048576: NARROWER than '..Said'. Prove '..Said' where nothing that the law and all that it calls make is longer than what came in: it says more and counts as full. Else prove '..UptoSaid'. A law counts once. -/
mutual
def uptoBulk {H : Type} : DataW H → Nat
  | .lit (.string bytes) => bytes.length + 1
  | .lit _ => 1
  | .nil => 1
  | .ptr d => uptoBulk d + 1
  | .slice elems spare => uptoBulkAll elems + uptoBulkAll spare + 1
  | .agg parts => uptoBulkAll parts + 1
  | .iface _ d => uptoBulk d + 1
  | .map entries => uptoBulkEntries entries + 1
  | .held _ => 1
def uptoBulkAll {H : Type} : List (DataW H) → Nat
  | [] => 0
  | d :: r => uptoBulk d + uptoBulkAll r
def uptoBulkEntries {H : Type} : List (Lit × DataW H) → Nat
  | [] => 0
  | x :: r => uptoBulkEntry x + uptoBulkEntries r
def uptoBulkEntry {H : Type} : Lit × DataW H → Nat
  | (.string bytes, d) => bytes.length + uptoBulk d + 1
  | (_, d) => uptoBulk d + 1
 end
def uptoSmall : (H : Type) → List (DataW H) → Bool := fun _ ds => decide (uptoBulkAll ds ≤ 1048576)
def OpenSpec.upto (s : _root_.Go.ChangeSpec) : _root_.Go.OpenSpec := { _root_.Go.OpenSpec.ofChange s with cond := some uptoSmall }

/-- 'taxiranklaw13.RenderApart', WHERE WHAT IT READS IS OF BULK AT MOST 1048576: true; the input reads as it did. -/
def renderApartUptoRow : OpenClaim := { program := "ytpijolcklmdjbaadoor", sum := "40e6753d608e009aeee4f6c43f8f949f8c933f4282f7a8341cf58d903cab72d0", func := "taxirank/taxiranklaw13.RenderApart", spec := "renderApart", inPlace := ["internal/bytealg.IndexByteString", "internal/bytealg.IndexString", "internal/bytealg.CountString", "internal/abi.NoEscape", "internal/bytealg.MakeNoZero"], named := ["internal/bytealg.MaxLen", "unicode/utf8.first", "unicode/utf8.acceptRanges", "taxirank/names.taken"], apart := false, laid := [("unicode/utf8.acceptRanges", laid_unicode_utf8_acceptRanges), ("taxirank/names.taken", laid_taxirank_names_taken), ("unicode/utf8.first", laid_unicode_utf8_first)], narrowed := true }
def RenderApartUptoSaid : Prop := renderApartUptoRow.holds Tryd.pinned (OpenSpec.upto renderApartSpec)

/-- 'taxiranklaw13.RenderQueries', WHERE WHAT IT READS IS OF BULK AT MOST 1048576: true; the input reads as it did. -/
def renderQueriesUptoRow : OpenClaim := { program := "ytpijolcklmdjbaadoor", sum := "40e6753d608e009aeee4f6c43f8f949f8c933f4282f7a8341cf58d903cab72d0", func := "taxirank/taxiranklaw13.RenderQueries", spec := "renderQueries", inPlace := ["internal/bytealg.IndexByteString", "internal/bytealg.IndexString", "internal/bytealg.CountString", "internal/abi.NoEscape", "internal/bytealg.MakeNoZero"], unfollowed := true, recurses := true, named := ["internal/bytealg.MaxLen", "unicode/utf8.first", "unicode/utf8.acceptRanges", "taxirank/names.taken"], apart := false, laid := [("unicode/utf8.acceptRanges", laid_unicode_utf8_acceptRanges), ("taxirank/names.taken", laid_taxirank_names_taken), ("unicode/utf8.first", laid_unicode_utf8_first)], narrowed := true }
def RenderQueriesUptoSaid : Prop := renderQueriesUptoRow.holds Tryd.pinned (OpenSpec.upto renderQueriesSpec)

/-- 'taxiranklaw13.RenderNames', WHERE WHAT IT READS IS OF BULK AT MOST 1048576: true; the input reads as it did. -/
def renderNamesUptoRow : OpenClaim := { program := "ytpijolcklmdjbaadoor", sum := "40e6753d608e009aeee4f6c43f8f949f8c933f4282f7a8341cf58d903cab72d0", func := "taxirank/taxiranklaw13.RenderNames", spec := "renderNames", inPlace := ["internal/bytealg.IndexByteString", "internal/bytealg.IndexString", "internal/bytealg.CountString", "internal/abi.NoEscape", "internal/bytealg.MakeNoZero"], unfollowed := true, recurses := true, named := ["internal/bytealg.MaxLen", "unicode/utf8.first", "unicode/utf8.acceptRanges", "taxirank/names.taken"], apart := false, laid := [("unicode/utf8.acceptRanges", laid_unicode_utf8_acceptRanges), ("taxirank/names.taken", laid_taxirank_names_taken), ("unicode/utf8.first", laid_unicode_utf8_first)], narrowed := true }
def RenderNamesUptoSaid : Prop := renderNamesUptoRow.holds Tryd.pinned (OpenSpec.upto renderNamesSpec)

end Rows
end Go.Proofs.YtpijolcklmdjbaaDoor
