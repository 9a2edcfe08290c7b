/-
  DERIVED. GIVEN WITH THE SEED: THE CARDS: each row of YtaalopiegabghaaGreatDoorRows.lean that lists a variable, with what it lists TIED to the program's text (the seventh form; the later family's looks); each row that meets fmt, with fmt's text TOLD by the authors' own Lean function (tested against real Go, not proved from fmt's source: count such statements apart). THE CARD IS WHAT COUNTS. Prove the row's statement (the work); the ties are given (YtaalopiegabghaaGreatDoorTie.lean); close each card by the builder's one call (the guide's Derived/Test/ToyasCard.lean, 'card_holds'). Laid BY PROGRAM, IN A SANDBOX (cutbox-door.mjs). By AI agents, Wed Nov 11 2026. No macro, syntax, notation, axiom, sorry.
-/
import Derived.Test.YtaalopiegabghaaGreatDoorRows
import GoSem.ClaimSeven
namespace Go.Proofs.YtaalopiegabghaaGreatDoor
namespace Rows

/-- THE TIED CARD OF 'taxiranklaw6.ValueTypes'. -/
def valueTypesCard : Claim7 := { stood := { row := valueTypesRow, standIns := [], harness := (true, "8f7e79f85c300cde4d672db65c2975b4aac65f3cb12aadaec159b60e714c8024"), looks := true }, kinds := [], alts := [], laidByText := true, laidKinds := [.data, .data, .widerDeep, .widerDeep, .data, .data, .data, .data, .data, .data, .sentinel, .sentinel, .pinned, .pinned, .pinned], laidTests := true, laidLooks := .later }
def ValueTypesCardSaid : Prop := Claim7.holds Tryz.pinned (.plain (OpenSpec.ofChange valueTypesSpec)) valueTypesCard

/-- THE TIED CARD OF 'taxiranklaw6.ValueReals'. -/
def valueRealsCard : Claim7 := { stood := { row := valueRealsRow, standIns := [], harness := (true, "8f7e79f85c300cde4d672db65c2975b4aac65f3cb12aadaec159b60e714c8024"), looks := true }, kinds := [], alts := [], laidByText := true, laidKinds := [.data, .data, .widerDeep, .widerDeep, .data, .data, .data, .data, .data, .data, .sentinel, .sentinel, .pinned, .pinned, .pinned], laidTests := true, laidLooks := .later }
def ValueRealsCardSaid : Prop := Claim7.holds Tryz.pinned (.plain (OpenSpec.ofChange valueRealsSpec)) valueRealsCard

/-- THE SECOND FORM's CARD OF 'taxiranklaw6.ValueTypes'. -/
def valueTypesUptoCard : Claim7 := { stood := { row := valueTypesUptoRow, standIns := [], harness := (true, "8f7e79f85c300cde4d672db65c2975b4aac65f3cb12aadaec159b60e714c8024"), looks := true }, kinds := [], alts := [], laidByText := true, laidKinds := [.data, .data, .widerDeep, .widerDeep, .data, .data, .data, .data, .data, .data, .sentinel, .sentinel, .pinned, .pinned, .pinned], laidTests := true, laidLooks := .later }
def ValueTypesUptoCardSaid : Prop := Claim7.holds Tryz.pinned (.plain (OpenSpec.upto valueTypesSpec)) valueTypesUptoCard

/-- THE SECOND FORM's CARD OF 'taxiranklaw6.ValueReals'. -/
def valueRealsUptoCard : Claim7 := { stood := { row := valueRealsUptoRow, standIns := [], harness := (true, "8f7e79f85c300cde4d672db65c2975b4aac65f3cb12aadaec159b60e714c8024"), looks := true }, kinds := [], alts := [], laidByText := true, laidKinds := [.data, .data, .widerDeep, .widerDeep, .data, .data, .data, .data, .data, .data, .sentinel, .sentinel, .pinned, .pinned, .pinned], laidTests := true, laidLooks := .later }
def ValueRealsUptoCardSaid : Prop := Claim7.holds Tryz.pinned (.plain (OpenSpec.upto valueRealsSpec)) valueRealsUptoCard
end Rows
end Go.Proofs.YtaalopiegabghaaGreatDoor
