/-
  DERIVED. GIVEN WITH THE SEED: THE CARDS: each row of YtdlhmcogpmdonaaGreatDoorRows.lean that lists a variable, with what it lists TIED to the program's text (the seventh form; the later family's looks); each row that meets fmt, with fmt's text TOLD by the authors' own Lean function (tested against real Go, not proved from fmt's source: count such statements apart). THE CARD IS WHAT COUNTS. Prove the row's statement (the work); the ties are given (YtdlhmcogpmdonaaGreatDoorTie.lean); close each card by the builder's one call (the guide's Derived/Test/ToyasCard.lean, 'card_holds'). Laid BY PROGRAM, IN A SANDBOX (cutbox-door.mjs). By AI agents, Wed Nov 11 2026. No macro, syntax, notation, axiom, sorry.
-/
import Derived.Test.YtdlhmcogpmdonaaGreatDoorRows
import GoSem.ClaimSeven
namespace Go.Proofs.YtdlhmcogpmdonaaGreatDoor
namespace Rows

/-- THE TIED CARD OF 'taxiranklaw5.RealForms'. -/
def realFormsCard : Claim7 := { stood := { row := realFormsRow, standIns := [], harness := (true, "44144be1d0b86061a2fbcb42383968a498760499052e9fc1d848eb48cdc90b41"), looks := true }, kinds := [], alts := [], laidByText := true, laidKinds := [.data, .data, .widerDeep, .widerDeep, .data, .data, .data, .data, .data, .data, .sentinel, .sentinel, .pinned, .pinned, .pinned], laidTests := true, laidLooks := .later }
def RealFormsCardSaid : Prop := Claim7.holds Tryz.pinned (.plain (OpenSpec.ofChange realFormsSpec)) realFormsCard

/-- THE TIED CARD OF 'taxiranklaw5.RealOrder'. -/
def realOrderCard : Claim7 := { stood := { row := realOrderRow, standIns := [], harness := (true, "44144be1d0b86061a2fbcb42383968a498760499052e9fc1d848eb48cdc90b41"), looks := true }, kinds := [], alts := [], laidByText := true, laidKinds := [.data, .data, .widerDeep, .widerDeep, .data, .data, .data, .data, .data, .data, .sentinel, .sentinel, .pinned, .pinned, .pinned], laidTests := true, laidLooks := .later }
def RealOrderCardSaid : Prop := Claim7.holds Tryz.pinned (.plain (OpenSpec.ofChange realOrderSpec)) realOrderCard

/-- THE TIED CARD OF 'taxiranklaw5.RealEdges'. -/
def realEdgesCard : Claim7 := { stood := { row := realEdgesRow, standIns := [], harness := (true, "44144be1d0b86061a2fbcb42383968a498760499052e9fc1d848eb48cdc90b41"), looks := true }, kinds := [], alts := [], laidByText := true, laidKinds := [.data, .data, .widerDeep, .widerDeep, .data, .data, .data, .data, .data, .data, .sentinel, .sentinel, .pinned, .pinned, .pinned], laidTests := true, laidLooks := .later }
def RealEdgesCardSaid : Prop := Claim7.holds Tryz.pinned (.plain (OpenSpec.ofChange realEdgesSpec)) realEdgesCard

/-- THE TIED CARD OF 'taxiranklaw5.RealBetween'. -/
def realBetweenCard : Claim7 := { stood := { row := realBetweenRow, standIns := [], harness := (true, "44144be1d0b86061a2fbcb42383968a498760499052e9fc1d848eb48cdc90b41"), looks := true }, kinds := [], alts := [], laidByText := true, laidKinds := [.data, .data, .widerDeep, .widerDeep, .data, .data, .data, .data, .data, .data, .sentinel, .sentinel, .pinned, .pinned, .pinned], laidTests := true, laidLooks := .later }
def RealBetweenCardSaid : Prop := Claim7.holds Tryz.pinned (.plain (OpenSpec.ofChange realBetweenSpec)) realBetweenCard

/-- THE TIED CARD OF 'taxiranklaw5.RealSame'. -/
def realSameCard : Claim7 := { stood := { row := realSameRow, standIns := [], harness := (true, "44144be1d0b86061a2fbcb42383968a498760499052e9fc1d848eb48cdc90b41"), looks := true }, kinds := [], alts := [], laidByText := true, laidKinds := [.data, .data, .widerDeep, .widerDeep, .data, .data, .data, .data, .data, .data, .sentinel, .sentinel, .pinned, .pinned, .pinned], laidTests := true, laidLooks := .later }
def RealSameCardSaid : Prop := Claim7.holds Tryz.pinned (.plain (OpenSpec.ofChange realSameSpec)) realSameCard

/-- THE TIED CARD OF 'taxiranklaw5.RealInts'. -/
def realIntsCard : Claim7 := { stood := { row := realIntsRow, standIns := [], harness := (true, "44144be1d0b86061a2fbcb42383968a498760499052e9fc1d848eb48cdc90b41"), looks := true }, kinds := [], alts := [], laidByText := true, laidKinds := [.data, .data, .widerDeep, .widerDeep, .data, .data, .data, .data, .data, .data, .sentinel, .sentinel, .pinned, .pinned, .pinned], laidTests := true, laidLooks := .later }
def RealIntsCardSaid : Prop := Claim7.holds Tryz.pinned (.plain (OpenSpec.ofChange realIntsSpec)) realIntsCard

/-- THE TIED CARD OF 'taxiranklaw5.RealTurned'. -/
def realTurnedCard : Claim7 := { stood := { row := realTurnedRow, standIns := [], harness := (true, "44144be1d0b86061a2fbcb42383968a498760499052e9fc1d848eb48cdc90b41"), looks := true }, kinds := [], alts := [], laidByText := true, laidKinds := [.data, .data, .widerDeep, .widerDeep, .data, .data, .data, .data, .data, .data, .sentinel, .sentinel, .pinned, .pinned, .pinned], laidTests := true, laidLooks := .later }
def RealTurnedCardSaid : Prop := Claim7.holds Tryz.pinned (.plain (OpenSpec.ofChange realTurnedSpec)) realTurnedCard

/-- THE SECOND FORM's CARD OF 'taxiranklaw5.RealForms'. -/
def realFormsUptoCard : Claim7 := { stood := { row := realFormsUptoRow, standIns := [], harness := (true, "44144be1d0b86061a2fbcb42383968a498760499052e9fc1d848eb48cdc90b41"), looks := true }, kinds := [], alts := [], laidByText := true, laidKinds := [.data, .data, .widerDeep, .widerDeep, .data, .data, .data, .data, .data, .data, .sentinel, .sentinel, .pinned, .pinned, .pinned], laidTests := true, laidLooks := .later }
def RealFormsUptoCardSaid : Prop := Claim7.holds Tryz.pinned (.plain (OpenSpec.upto realFormsSpec)) realFormsUptoCard

/-- THE SECOND FORM's CARD OF 'taxiranklaw5.RealOrder'. -/
def realOrderUptoCard : Claim7 := { stood := { row := realOrderUptoRow, standIns := [], harness := (true, "44144be1d0b86061a2fbcb42383968a498760499052e9fc1d848eb48cdc90b41"), looks := true }, kinds := [], alts := [], laidByText := true, laidKinds := [.data, .data, .widerDeep, .widerDeep, .data, .data, .data, .data, .data, .data, .sentinel, .sentinel, .pinned, .pinned, .pinned], laidTests := true, laidLooks := .later }
def RealOrderUptoCardSaid : Prop := Claim7.holds Tryz.pinned (.plain (OpenSpec.upto realOrderSpec)) realOrderUptoCard

/-- THE SECOND FORM's CARD OF 'taxiranklaw5.RealEdges'. -/
def realEdgesUptoCard : Claim7 := { stood := { row := realEdgesUptoRow, standIns := [], harness := (true, "44144be1d0b86061a2fbcb42383968a498760499052e9fc1d848eb48cdc90b41"), looks := true }, kinds := [], alts := [], laidByText := true, laidKinds := [.data, .data, .widerDeep, .widerDeep, .data, .data, .data, .data, .data, .data, .sentinel, .sentinel, .pinned, .pinned, .pinned], laidTests := true, laidLooks := .later }
def RealEdgesUptoCardSaid : Prop := Claim7.holds Tryz.pinned (.plain (OpenSpec.upto realEdgesSpec)) realEdgesUptoCard

/-- THE SECOND FORM's CARD OF 'taxiranklaw5.RealBetween'. -/
def realBetweenUptoCard : Claim7 := { stood := { row := realBetweenUptoRow, standIns := [], harness := (true, "44144be1d0b86061a2fbcb42383968a498760499052e9fc1d848eb48cdc90b41"), looks := true }, kinds := [], alts := [], laidByText := true, laidKinds := [.data, .data, .widerDeep, .widerDeep, .data, .data, .data, .data, .data, .data, .sentinel, .sentinel, .pinned, .pinned, .pinned], laidTests := true, laidLooks := .later }
def RealBetweenUptoCardSaid : Prop := Claim7.holds Tryz.pinned (.plain (OpenSpec.upto realBetweenSpec)) realBetweenUptoCard

/-- THE SECOND FORM's CARD OF 'taxiranklaw5.RealSame'. -/
def realSameUptoCard : Claim7 := { stood := { row := realSameUptoRow, standIns := [], harness := (true, "44144be1d0b86061a2fbcb42383968a498760499052e9fc1d848eb48cdc90b41"), looks := true }, kinds := [], alts := [], laidByText := true, laidKinds := [.data, .data, .widerDeep, .widerDeep, .data, .data, .data, .data, .data, .data, .sentinel, .sentinel, .pinned, .pinned, .pinned], laidTests := true, laidLooks := .later }
def RealSameUptoCardSaid : Prop := Claim7.holds Tryz.pinned (.plain (OpenSpec.upto realSameSpec)) realSameUptoCard

/-- THE SECOND FORM's CARD OF 'taxiranklaw5.RealInts'. -/
def realIntsUptoCard : Claim7 := { stood := { row := realIntsUptoRow, standIns := [], harness := (true, "44144be1d0b86061a2fbcb42383968a498760499052e9fc1d848eb48cdc90b41"), looks := true }, kinds := [], alts := [], laidByText := true, laidKinds := [.data, .data, .widerDeep, .widerDeep, .data, .data, .data, .data, .data, .data, .sentinel, .sentinel, .pinned, .pinned, .pinned], laidTests := true, laidLooks := .later }
def RealIntsUptoCardSaid : Prop := Claim7.holds Tryz.pinned (.plain (OpenSpec.upto realIntsSpec)) realIntsUptoCard

/-- THE SECOND FORM's CARD OF 'taxiranklaw5.RealTurned'. -/
def realTurnedUptoCard : Claim7 := { stood := { row := realTurnedUptoRow, standIns := [], harness := (true, "44144be1d0b86061a2fbcb42383968a498760499052e9fc1d848eb48cdc90b41"), looks := true }, kinds := [], alts := [], laidByText := true, laidKinds := [.data, .data, .widerDeep, .widerDeep, .data, .data, .data, .data, .data, .data, .sentinel, .sentinel, .pinned, .pinned, .pinned], laidTests := true, laidLooks := .later }
def RealTurnedUptoCardSaid : Prop := Claim7.holds Tryz.pinned (.plain (OpenSpec.upto realTurnedSpec)) realTurnedUptoCard
end Rows
end Go.Proofs.YtdlhmcogpmdonaaGreatDoor
