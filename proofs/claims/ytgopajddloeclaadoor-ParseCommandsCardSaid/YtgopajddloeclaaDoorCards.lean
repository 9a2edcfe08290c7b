/-
  DERIVED. GIVEN WITH THE SEED: THE CARDS: each row of YtgopajddloeclaaDoorRows.lean that lists a variable, with what it lists TIED to the program's text (the seventh form; the later family's looks); each row that meets fmt, with fmt's text TOLD by the authors' own Lean function (tested against real Go, not proved from fmt's source: count such statements apart). THE CARD IS WHAT COUNTS. Prove the row's statement (the work); the ties are given (YtgopajddloeclaaDoorTie.lean); close each card by the builder's one call (the guide's Derived/Test/ToyasCard.lean, 'card_holds'). Laid BY PROGRAM, IN A SANDBOX (cutbox-door.mjs). By AI agents, Wed Nov 11 2026. No macro, syntax, notation, axiom, sorry.
-/
import Derived.Test.YtgopajddloeclaaDoorRows
import GoSem.ClaimSeven
namespace Go.Proofs.YtgopajddloeclaaDoor
namespace Rows

/-- THE TIED CARD OF 'taxiranklaw9.ParseCommands'. -/
def parseCommandsCard : Claim7 := { stood := { row := parseCommandsRow, standIns := [], harness := (true, "3a369c1a59bf8504b703fa44239039727d50fd900b01cb28676f13527631e6d7"), looks := false }, kinds := [], alts := [], laidByText := true, laidKinds := [.data], laidTests := true, laidLooks := .later }
def ParseCommandsCardSaid : Prop := Claim7.holds Tryd.pinned (.plain (OpenSpec.ofChange parseCommandsSpec)) parseCommandsCard

/-- THE TIED CARD OF 'taxiranklaw9.ParseAgain'. -/
def parseAgainCard : Claim7 := { stood := { row := parseAgainRow, standIns := [], harness := (true, "3a369c1a59bf8504b703fa44239039727d50fd900b01cb28676f13527631e6d7"), looks := false }, kinds := [], alts := [], laidByText := true, laidKinds := [.data, .data, .pinned], laidTests := true, laidLooks := .later }
def ParseAgainCardSaid : Prop := Claim7.holds Tryd.pinned (.plain (OpenSpec.ofChange parseAgainSpec)) parseAgainCard

/-- THE TIED CARD OF 'taxiranklaw9.ParseWrites'. -/
def parseWritesCard : Claim7 := { stood := { row := parseWritesRow, standIns := [], harness := (true, "3a369c1a59bf8504b703fa44239039727d50fd900b01cb28676f13527631e6d7"), looks := false }, kinds := [], alts := [], laidByText := true, laidKinds := [.data, .data, .data, .pinned], laidTests := true, laidLooks := .later }
def ParseWritesCardSaid : Prop := Claim7.holds Tryd.pinned (.plain (OpenSpec.ofChange parseWritesSpec)) parseWritesCard

/-- THE TIED CARD OF 'taxiranklaw9.ParseTransactions'. -/
def parseTransactionsCard : Claim7 := { stood := { row := parseTransactionsRow, standIns := [], harness := (true, "3a369c1a59bf8504b703fa44239039727d50fd900b01cb28676f13527631e6d7"), looks := false }, kinds := [], alts := [], laidByText := true, laidKinds := [.data], laidTests := true, laidLooks := .later }
def ParseTransactionsCardSaid : Prop := Claim7.holds Tryd.pinned (.plain (OpenSpec.ofChange parseTransactionsSpec)) parseTransactionsCard

/-- THE TIED CARD OF 'taxiranklaw9.ParseOthers'. -/
def parseOthersCard : Claim7 := { stood := { row := parseOthersRow, standIns := [], harness := (true, "3a369c1a59bf8504b703fa44239039727d50fd900b01cb28676f13527631e6d7"), looks := false }, kinds := [], alts := [], laidByText := true, laidKinds := [.data], laidTests := true, laidLooks := .later }
def ParseOthersCardSaid : Prop := Claim7.holds Tryd.pinned (.plain (OpenSpec.ofChange parseOthersSpec)) parseOthersCard

/-- THE TIED CARD OF 'taxiranklaw9.ParseSavepoints'. -/
def parseSavepointsCard : Claim7 := { stood := { row := parseSavepointsRow, standIns := [], harness := (true, "3a369c1a59bf8504b703fa44239039727d50fd900b01cb28676f13527631e6d7"), looks := false }, kinds := [], alts := [], laidByText := true, laidKinds := [.data, .data, .pinned], laidTests := true, laidLooks := .later }
def ParseSavepointsCardSaid : Prop := Claim7.holds Tryd.pinned (.plain (OpenSpec.ofChange parseSavepointsSpec)) parseSavepointsCard

/-- THE TIED CARD OF 'taxiranklaw9.ParseValues'. -/
def parseValuesCard : Claim7 := { stood := { row := parseValuesRow, standIns := [], harness := (true, "3a369c1a59bf8504b703fa44239039727d50fd900b01cb28676f13527631e6d7"), looks := false }, kinds := [], alts := [], laidByText := true, laidKinds := [.data, .data, .pinned], laidTests := true, laidLooks := .later }
def ParseValuesCardSaid : Prop := Claim7.holds Tryd.pinned (.plain (OpenSpec.ofChange parseValuesSpec)) parseValuesCard

/-- THE SECOND FORM's CARD OF 'taxiranklaw9.ParseCommands'. -/
def parseCommandsUptoCard : Claim7 := { stood := { row := parseCommandsUptoRow, standIns := [], harness := (true, "3a369c1a59bf8504b703fa44239039727d50fd900b01cb28676f13527631e6d7"), looks := false }, kinds := [], alts := [], laidByText := true, laidKinds := [.data], laidTests := true, laidLooks := .later }
def ParseCommandsUptoCardSaid : Prop := Claim7.holds Tryd.pinned (.plain (OpenSpec.upto parseCommandsSpec)) parseCommandsUptoCard

/-- THE SECOND FORM's CARD OF 'taxiranklaw9.ParseAgain'. -/
def parseAgainUptoCard : Claim7 := { stood := { row := parseAgainUptoRow, standIns := [], harness := (true, "3a369c1a59bf8504b703fa44239039727d50fd900b01cb28676f13527631e6d7"), looks := false }, kinds := [], alts := [], laidByText := true, laidKinds := [.data, .data, .pinned], laidTests := true, laidLooks := .later }
def ParseAgainUptoCardSaid : Prop := Claim7.holds Tryd.pinned (.plain (OpenSpec.upto parseAgainSpec)) parseAgainUptoCard

/-- THE SECOND FORM's CARD OF 'taxiranklaw9.ParseWrites'. -/
def parseWritesUptoCard : Claim7 := { stood := { row := parseWritesUptoRow, standIns := [], harness := (true, "3a369c1a59bf8504b703fa44239039727d50fd900b01cb28676f13527631e6d7"), looks := false }, kinds := [], alts := [], laidByText := true, laidKinds := [.data, .data, .data, .pinned], laidTests := true, laidLooks := .later }
def ParseWritesUptoCardSaid : Prop := Claim7.holds Tryd.pinned (.plain (OpenSpec.upto parseWritesSpec)) parseWritesUptoCard

/-- THE SECOND FORM's CARD OF 'taxiranklaw9.ParseTransactions'. -/
def parseTransactionsUptoCard : Claim7 := { stood := { row := parseTransactionsUptoRow, standIns := [], harness := (true, "3a369c1a59bf8504b703fa44239039727d50fd900b01cb28676f13527631e6d7"), looks := false }, kinds := [], alts := [], laidByText := true, laidKinds := [.data], laidTests := true, laidLooks := .later }
def ParseTransactionsUptoCardSaid : Prop := Claim7.holds Tryd.pinned (.plain (OpenSpec.upto parseTransactionsSpec)) parseTransactionsUptoCard

/-- THE SECOND FORM's CARD OF 'taxiranklaw9.ParseOthers'. -/
def parseOthersUptoCard : Claim7 := { stood := { row := parseOthersUptoRow, standIns := [], harness := (true, "3a369c1a59bf8504b703fa44239039727d50fd900b01cb28676f13527631e6d7"), looks := false }, kinds := [], alts := [], laidByText := true, laidKinds := [.data], laidTests := true, laidLooks := .later }
def ParseOthersUptoCardSaid : Prop := Claim7.holds Tryd.pinned (.plain (OpenSpec.upto parseOthersSpec)) parseOthersUptoCard

/-- THE SECOND FORM's CARD OF 'taxiranklaw9.ParseSavepoints'. -/
def parseSavepointsUptoCard : Claim7 := { stood := { row := parseSavepointsUptoRow, standIns := [], harness := (true, "3a369c1a59bf8504b703fa44239039727d50fd900b01cb28676f13527631e6d7"), looks := false }, kinds := [], alts := [], laidByText := true, laidKinds := [.data, .data, .pinned], laidTests := true, laidLooks := .later }
def ParseSavepointsUptoCardSaid : Prop := Claim7.holds Tryd.pinned (.plain (OpenSpec.upto parseSavepointsSpec)) parseSavepointsUptoCard

/-- THE SECOND FORM's CARD OF 'taxiranklaw9.ParseValues'. -/
def parseValuesUptoCard : Claim7 := { stood := { row := parseValuesUptoRow, standIns := [], harness := (true, "3a369c1a59bf8504b703fa44239039727d50fd900b01cb28676f13527631e6d7"), looks := false }, kinds := [], alts := [], laidByText := true, laidKinds := [.data, .data, .pinned], laidTests := true, laidLooks := .later }
def ParseValuesUptoCardSaid : Prop := Claim7.holds Tryd.pinned (.plain (OpenSpec.upto parseValuesSpec)) parseValuesUptoCard
end Rows
end Go.Proofs.YtgopajddloeclaaDoor
