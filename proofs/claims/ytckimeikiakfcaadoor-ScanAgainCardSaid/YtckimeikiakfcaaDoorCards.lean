/-
  DERIVED. GIVEN WITH THE SEED: THE CARDS: each row of YtckimeikiakfcaaDoorRows.lean that lists a variable, with what it lists TIED to the program's text (the seventh form; the later family's looks); each row that meets fmt, with fmt's text TOLD by the authors' own Lean function (tested against real Go, not proved from fmt's source: count such statements apart). THE CARD IS WHAT COUNTS. Prove the row's statement (the work); the ties are given (YtckimeikiakfcaaDoorTie.lean); close each card by the builder's one call (the guide's Derived/Test/ToyasCard.lean, 'card_holds'). Laid BY PROGRAM, IN A SANDBOX (cutbox-door.mjs). By AI agents, Wed Nov 11 2026. No macro, syntax, notation, axiom, sorry.
-/
import Derived.Test.YtckimeikiakfcaaDoorRows
import GoSem.ClaimSeven
namespace Go.Proofs.YtckimeikiakfcaaDoor
namespace Rows

/-- THE TIED CARD OF 'taxiranklaw3.ScanAgain'. -/
def scanAgainCard : Claim7 := { stood := { row := scanAgainRow, standIns := [], harness := (true, "07954fb602cdc3c2fed1250fb4e9854de6777b60a7909e792baa7f8a2800634e"), looks := false }, kinds := [], alts := [], laidByText := true, laidKinds := [.data, .pinned], laidTests := true, laidLooks := .later }
def ScanAgainCardSaid : Prop := Claim7.holds Tryd.pinned (.plain (OpenSpec.ofChange scanAgainSpec)) scanAgainCard

/-- THE TIED CARD OF 'taxiranklaw3.ScanQuotes'. -/
def scanQuotesCard : Claim7 := { stood := { row := scanQuotesRow, standIns := [], harness := (true, "07954fb602cdc3c2fed1250fb4e9854de6777b60a7909e792baa7f8a2800634e"), looks := false }, kinds := [], alts := [], laidByText := true, laidKinds := [.data, .pinned], laidTests := true, laidLooks := .later }
def ScanQuotesCardSaid : Prop := Claim7.holds Tryd.pinned (.plain (OpenSpec.ofChange scanQuotesSpec)) scanQuotesCard

/-- THE TIED CARD OF 'taxiranklaw4.SplitJoins'. -/
def splitJoinsCard : Claim7 := { stood := { row := splitJoinsRow, standIns := [], harness := (true, "07954fb602cdc3c2fed1250fb4e9854de6777b60a7909e792baa7f8a2800634e"), looks := false }, kinds := [], alts := [], laidByText := true, laidKinds := [.data, .pinned], laidTests := true, laidLooks := .later }
def SplitJoinsCardSaid : Prop := Claim7.holds Tryd.pinned (.plain (OpenSpec.ofChange splitJoinsSpec)) splitJoinsCard

/-- THE TIED CARD OF 'taxiranklaw4.SplitSigns'. -/
def splitSignsCard : Claim7 := { stood := { row := splitSignsRow, standIns := [], harness := (true, "07954fb602cdc3c2fed1250fb4e9854de6777b60a7909e792baa7f8a2800634e"), looks := false }, kinds := [], alts := [], laidByText := true, laidKinds := [.data, .pinned], laidTests := true, laidLooks := .later }
def SplitSignsCardSaid : Prop := Claim7.holds Tryd.pinned (.plain (OpenSpec.ofChange splitSignsSpec)) splitSignsCard

/-- THE TIED CARD OF 'taxiranklaw4.SplitMany'. -/
def splitManyCard : Claim7 := { stood := { row := splitManyRow, standIns := [], harness := (true, "07954fb602cdc3c2fed1250fb4e9854de6777b60a7909e792baa7f8a2800634e"), looks := false }, kinds := [], alts := [], laidByText := true, laidKinds := [.data, .pinned], laidTests := true, laidLooks := .later }
def SplitManyCardSaid : Prop := Claim7.holds Tryd.pinned (.plain (OpenSpec.ofChange splitManySpec)) splitManyCard

/-- THE TIED CARD OF 'taxiranklaw4.SplitOne'. -/
def splitOneCard : Claim7 := { stood := { row := splitOneRow, standIns := [], harness := (true, "07954fb602cdc3c2fed1250fb4e9854de6777b60a7909e792baa7f8a2800634e"), looks := false }, kinds := [], alts := [], laidByText := true, laidKinds := [.data, .pinned], laidTests := true, laidLooks := .later }
def SplitOneCardSaid : Prop := Claim7.holds Tryd.pinned (.plain (OpenSpec.ofChange splitOneSpec)) splitOneCard

/-- THE SECOND FORM's CARD OF 'taxiranklaw3.ScanAgain'. -/
def scanAgainUptoCard : Claim7 := { stood := { row := scanAgainUptoRow, standIns := [], harness := (true, "07954fb602cdc3c2fed1250fb4e9854de6777b60a7909e792baa7f8a2800634e"), looks := false }, kinds := [], alts := [], laidByText := true, laidKinds := [.data, .pinned], laidTests := true, laidLooks := .later }
def ScanAgainUptoCardSaid : Prop := Claim7.holds Tryd.pinned (.plain (OpenSpec.upto scanAgainSpec)) scanAgainUptoCard

/-- THE SECOND FORM's CARD OF 'taxiranklaw3.ScanQuotes'. -/
def scanQuotesUptoCard : Claim7 := { stood := { row := scanQuotesUptoRow, standIns := [], harness := (true, "07954fb602cdc3c2fed1250fb4e9854de6777b60a7909e792baa7f8a2800634e"), looks := false }, kinds := [], alts := [], laidByText := true, laidKinds := [.data, .pinned], laidTests := true, laidLooks := .later }
def ScanQuotesUptoCardSaid : Prop := Claim7.holds Tryd.pinned (.plain (OpenSpec.upto scanQuotesSpec)) scanQuotesUptoCard

/-- THE SECOND FORM's CARD OF 'taxiranklaw4.SplitJoins'. -/
def splitJoinsUptoCard : Claim7 := { stood := { row := splitJoinsUptoRow, standIns := [], harness := (true, "07954fb602cdc3c2fed1250fb4e9854de6777b60a7909e792baa7f8a2800634e"), looks := false }, kinds := [], alts := [], laidByText := true, laidKinds := [.data, .pinned], laidTests := true, laidLooks := .later }
def SplitJoinsUptoCardSaid : Prop := Claim7.holds Tryd.pinned (.plain (OpenSpec.upto splitJoinsSpec)) splitJoinsUptoCard

/-- THE SECOND FORM's CARD OF 'taxiranklaw4.SplitSigns'. -/
def splitSignsUptoCard : Claim7 := { stood := { row := splitSignsUptoRow, standIns := [], harness := (true, "07954fb602cdc3c2fed1250fb4e9854de6777b60a7909e792baa7f8a2800634e"), looks := false }, kinds := [], alts := [], laidByText := true, laidKinds := [.data, .pinned], laidTests := true, laidLooks := .later }
def SplitSignsUptoCardSaid : Prop := Claim7.holds Tryd.pinned (.plain (OpenSpec.upto splitSignsSpec)) splitSignsUptoCard

/-- THE SECOND FORM's CARD OF 'taxiranklaw4.SplitMany'. -/
def splitManyUptoCard : Claim7 := { stood := { row := splitManyUptoRow, standIns := [], harness := (true, "07954fb602cdc3c2fed1250fb4e9854de6777b60a7909e792baa7f8a2800634e"), looks := false }, kinds := [], alts := [], laidByText := true, laidKinds := [.data, .pinned], laidTests := true, laidLooks := .later }
def SplitManyUptoCardSaid : Prop := Claim7.holds Tryd.pinned (.plain (OpenSpec.upto splitManySpec)) splitManyUptoCard

/-- THE SECOND FORM's CARD OF 'taxiranklaw4.SplitOne'. -/
def splitOneUptoCard : Claim7 := { stood := { row := splitOneUptoRow, standIns := [], harness := (true, "07954fb602cdc3c2fed1250fb4e9854de6777b60a7909e792baa7f8a2800634e"), looks := false }, kinds := [], alts := [], laidByText := true, laidKinds := [.data, .pinned], laidTests := true, laidLooks := .later }
def SplitOneUptoCardSaid : Prop := Claim7.holds Tryd.pinned (.plain (OpenSpec.upto splitOneSpec)) splitOneUptoCard
end Rows
end Go.Proofs.YtckimeikiakfcaaDoor
