/-
  DERIVED. GIVEN WITH THE SEED: THE CARDS: each row of YtfdffiphlpeegaaDoorRows.lean that lists a variable, with what it lists TIED to the program's text (the seventh form; the later family's looks); each row that meets fmt, with fmt's text TOLD by the authors' own Lean function (tested against real Go, not proved from fmt's source: count such statements apart). THE CARD IS WHAT COUNTS. Prove the row's statement (the work); the ties are given (YtfdffiphlpeegaaDoorTie.lean); close each card by the builder's one call (the guide's Derived/Test/ToyasCard.lean, 'card_holds'). Laid BY PROGRAM, IN A SANDBOX (cutbox-door.mjs). By AI agents, Wed Nov 11 2026. No macro, syntax, notation, axiom, sorry.
-/
import Derived.Test.YtfdffiphlpeegaaDoorRows
import GoSem.ClaimSeven
namespace Go.Proofs.YtfdffiphlpeegaaDoor
namespace Rows

/-- THE TIED CARD OF 'taxiranklaw2.MsgDecodes'. -/
def msgDecodesCard : Claim7 := { stood := { row := msgDecodesRow, standIns := [], harness := (true, "036de3c35d0fddf6fdc0cf6f7dda85270ca28380eab91deff8afaeca29601f4e"), looks := false }, kinds := [], alts := [], laidByText := true, laidKinds := [.data, .pinned], laidTests := true, laidLooks := .later }
def MsgDecodesCardSaid : Prop := Claim7.holds Tryd.pinned (.plain (OpenSpec.ofChange msgDecodesSpec)) msgDecodesCard

/-- THE TIED CARD OF 'taxiranklaw2.MsgBack'. -/
def msgBackCard : Claim7 := { stood := { row := msgBackRow, standIns := [], harness := (true, "036de3c35d0fddf6fdc0cf6f7dda85270ca28380eab91deff8afaeca29601f4e"), looks := false }, kinds := [], alts := [], laidByText := true, laidKinds := [.data, .pinned], laidTests := true, laidLooks := .later }
def MsgBackCardSaid : Prop := Claim7.holds Tryd.pinned (.plain (OpenSpec.ofChange msgBackSpec)) msgBackCard

/-- THE TIED CARD OF 'taxiranklaw2.MsgCuts'. -/
def msgCutsCard : Claim7 := { stood := { row := msgCutsRow, standIns := [], harness := (true, "036de3c35d0fddf6fdc0cf6f7dda85270ca28380eab91deff8afaeca29601f4e"), looks := false }, kinds := [], alts := [], laidByText := true, laidKinds := [.data, .pinned], laidTests := true, laidLooks := .later }
def MsgCutsCardSaid : Prop := Claim7.holds Tryd.pinned (.plain (OpenSpec.ofChange msgCutsSpec)) msgCutsCard

/-- THE TIED CARD OF 'taxiranklaw2.MsgNumbers'. -/
def msgNumbersCard : Claim7 := { stood := { row := msgNumbersRow, standIns := [], harness := (true, "036de3c35d0fddf6fdc0cf6f7dda85270ca28380eab91deff8afaeca29601f4e"), looks := false }, kinds := [], alts := [], laidByText := true, laidKinds := [.data, .pinned], laidTests := true, laidLooks := .later }
def MsgNumbersCardSaid : Prop := Claim7.holds Tryd.pinned (.plain (OpenSpec.ofChange msgNumbersSpec)) msgNumbersCard

/-- THE TIED CARD OF 'taxiranklaw2.MsgRows'. -/
def msgRowsCard : Claim7 := { stood := { row := msgRowsRow, standIns := [], harness := (true, "036de3c35d0fddf6fdc0cf6f7dda85270ca28380eab91deff8afaeca29601f4e"), looks := false }, kinds := [], alts := [], laidByText := true, laidKinds := [.data, .pinned], laidTests := true, laidLooks := .later }
def MsgRowsCardSaid : Prop := Claim7.holds Tryd.pinned (.plain (OpenSpec.ofChange msgRowsSpec)) msgRowsCard

/-- THE SECOND FORM's CARD OF 'taxiranklaw2.MsgDecodes'. -/
def msgDecodesUptoCard : Claim7 := { stood := { row := msgDecodesUptoRow, standIns := [], harness := (true, "036de3c35d0fddf6fdc0cf6f7dda85270ca28380eab91deff8afaeca29601f4e"), looks := false }, kinds := [], alts := [], laidByText := true, laidKinds := [.data, .pinned], laidTests := true, laidLooks := .later }
def MsgDecodesUptoCardSaid : Prop := Claim7.holds Tryd.pinned (.plain (OpenSpec.upto msgDecodesSpec)) msgDecodesUptoCard

/-- THE SECOND FORM's CARD OF 'taxiranklaw2.MsgBack'. -/
def msgBackUptoCard : Claim7 := { stood := { row := msgBackUptoRow, standIns := [], harness := (true, "036de3c35d0fddf6fdc0cf6f7dda85270ca28380eab91deff8afaeca29601f4e"), looks := false }, kinds := [], alts := [], laidByText := true, laidKinds := [.data, .pinned], laidTests := true, laidLooks := .later }
def MsgBackUptoCardSaid : Prop := Claim7.holds Tryd.pinned (.plain (OpenSpec.upto msgBackSpec)) msgBackUptoCard

/-- THE SECOND FORM's CARD OF 'taxiranklaw2.MsgCuts'. -/
def msgCutsUptoCard : Claim7 := { stood := { row := msgCutsUptoRow, standIns := [], harness := (true, "036de3c35d0fddf6fdc0cf6f7dda85270ca28380eab91deff8afaeca29601f4e"), looks := false }, kinds := [], alts := [], laidByText := true, laidKinds := [.data, .pinned], laidTests := true, laidLooks := .later }
def MsgCutsUptoCardSaid : Prop := Claim7.holds Tryd.pinned (.plain (OpenSpec.upto msgCutsSpec)) msgCutsUptoCard

/-- THE SECOND FORM's CARD OF 'taxiranklaw2.MsgNumbers'. -/
def msgNumbersUptoCard : Claim7 := { stood := { row := msgNumbersUptoRow, standIns := [], harness := (true, "036de3c35d0fddf6fdc0cf6f7dda85270ca28380eab91deff8afaeca29601f4e"), looks := false }, kinds := [], alts := [], laidByText := true, laidKinds := [.data, .pinned], laidTests := true, laidLooks := .later }
def MsgNumbersUptoCardSaid : Prop := Claim7.holds Tryd.pinned (.plain (OpenSpec.upto msgNumbersSpec)) msgNumbersUptoCard

/-- THE SECOND FORM's CARD OF 'taxiranklaw2.MsgRows'. -/
def msgRowsUptoCard : Claim7 := { stood := { row := msgRowsUptoRow, standIns := [], harness := (true, "036de3c35d0fddf6fdc0cf6f7dda85270ca28380eab91deff8afaeca29601f4e"), looks := false }, kinds := [], alts := [], laidByText := true, laidKinds := [.data, .pinned], laidTests := true, laidLooks := .later }
def MsgRowsUptoCardSaid : Prop := Claim7.holds Tryd.pinned (.plain (OpenSpec.upto msgRowsSpec)) msgRowsUptoCard
end Rows
end Go.Proofs.YtfdffiphlpeegaaDoor
