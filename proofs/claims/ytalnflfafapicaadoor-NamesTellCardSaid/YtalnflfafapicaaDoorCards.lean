/-
  DERIVED. GIVEN WITH THE SEED: THE CARDS: each row of YtalnflfafapicaaDoorRows.lean that lists a variable, with what it lists TIED to the program's text (the seventh form; the later family's looks); each row that meets fmt, with fmt's text TOLD by the authors' own Lean function (tested against real Go, not proved from fmt's source: count such statements apart). THE CARD IS WHAT COUNTS. Prove the row's statement (the work); the ties are given (YtalnflfafapicaaDoorTie.lean); close each card by the builder's one call (the guide's Derived/Test/ToyasCard.lean, 'card_holds'). Laid BY PROGRAM, IN A SANDBOX (cutbox-door.mjs). By AI agents, Wed Nov 11 2026. No macro, syntax, notation, axiom, sorry.
-/
import Derived.Test.YtalnflfafapicaaDoorRows
import GoSem.ClaimSeven
namespace Go.Proofs.YtalnflfafapicaaDoor
namespace Rows

/-- THE TIED CARD OF 'taxiranklaw7.NamesTell'. -/
def namesTellCard : Claim7 := { stood := { row := namesTellRow, standIns := [], harness := (true, "46bb9080f4d3322ba981903b4d9435c4d2a9e8830942fd46b12e4049dbffbbb9"), looks := false }, kinds := [], alts := [], laidByText := true, laidKinds := [.data, .data, .pinned], laidTests := true, laidLooks := .later }
def NamesTellCardSaid : Prop := Claim7.holds Tryd.pinned (.plain (OpenSpec.ofChange namesTellSpec)) namesTellCard

/-- THE TIED CARD OF 'taxiranklaw7.NamesBack'. -/
def namesBackCard : Claim7 := { stood := { row := namesBackRow, standIns := [], harness := (true, "46bb9080f4d3322ba981903b4d9435c4d2a9e8830942fd46b12e4049dbffbbb9"), looks := false }, kinds := [], alts := [], laidByText := true, laidKinds := [.data, .data, .pinned], laidTests := true, laidLooks := .later }
def NamesBackCardSaid : Prop := Claim7.holds Tryd.pinned (.plain (OpenSpec.ofChange namesBackSpec)) namesBackCard

/-- THE TIED CARD OF 'taxiranklaw7.NamesFold'. -/
def namesFoldCard : Claim7 := { stood := { row := namesFoldRow, standIns := [], harness := (true, "46bb9080f4d3322ba981903b4d9435c4d2a9e8830942fd46b12e4049dbffbbb9"), looks := false }, kinds := [], alts := [], laidByText := true, laidKinds := [.data, .data, .pinned], laidTests := true, laidLooks := .later }
def NamesFoldCardSaid : Prop := Claim7.holds Tryd.pinned (.plain (OpenSpec.ofChange namesFoldSpec)) namesFoldCard

/-- THE TIED CARD OF 'taxiranklaw7.NamesParts'. -/
def namesPartsCard : Claim7 := { stood := { row := namesPartsRow, standIns := [], harness := (true, "46bb9080f4d3322ba981903b4d9435c4d2a9e8830942fd46b12e4049dbffbbb9"), looks := false }, kinds := [], alts := [], laidByText := true, laidKinds := [.data, .data, .pinned], laidTests := true, laidLooks := .later }
def NamesPartsCardSaid : Prop := Claim7.holds Tryd.pinned (.plain (OpenSpec.ofChange namesPartsSpec)) namesPartsCard

/-- THE TIED CARD OF 'taxiranklaw7.NamesTakes'. -/
def namesTakesCard : Claim7 := { stood := { row := namesTakesRow, standIns := [], harness := (true, "46bb9080f4d3322ba981903b4d9435c4d2a9e8830942fd46b12e4049dbffbbb9"), looks := false }, kinds := [], alts := [], laidByText := true, laidKinds := [.data, .data, .pinned], laidTests := true, laidLooks := .later }
def NamesTakesCardSaid : Prop := Claim7.holds Tryd.pinned (.plain (OpenSpec.ofChange namesTakesSpec)) namesTakesCard

/-- THE TIED CARD OF 'taxiranklaw7.NamesLong'. -/
def namesLongCard : Claim7 := { stood := { row := namesLongRow, standIns := [], harness := (true, "46bb9080f4d3322ba981903b4d9435c4d2a9e8830942fd46b12e4049dbffbbb9"), looks := false }, kinds := [], alts := [], laidByText := true, laidKinds := [.data, .data, .pinned], laidTests := true, laidLooks := .later }
def NamesLongCardSaid : Prop := Claim7.holds Tryd.pinned (.plain (OpenSpec.ofChange namesLongSpec)) namesLongCard

/-- THE SECOND FORM's CARD OF 'taxiranklaw7.NamesTell'. -/
def namesTellUptoCard : Claim7 := { stood := { row := namesTellUptoRow, standIns := [], harness := (true, "46bb9080f4d3322ba981903b4d9435c4d2a9e8830942fd46b12e4049dbffbbb9"), looks := false }, kinds := [], alts := [], laidByText := true, laidKinds := [.data, .data, .pinned], laidTests := true, laidLooks := .later }
def NamesTellUptoCardSaid : Prop := Claim7.holds Tryd.pinned (.plain (OpenSpec.upto namesTellSpec)) namesTellUptoCard

/-- THE SECOND FORM's CARD OF 'taxiranklaw7.NamesBack'. -/
def namesBackUptoCard : Claim7 := { stood := { row := namesBackUptoRow, standIns := [], harness := (true, "46bb9080f4d3322ba981903b4d9435c4d2a9e8830942fd46b12e4049dbffbbb9"), looks := false }, kinds := [], alts := [], laidByText := true, laidKinds := [.data, .data, .pinned], laidTests := true, laidLooks := .later }
def NamesBackUptoCardSaid : Prop := Claim7.holds Tryd.pinned (.plain (OpenSpec.upto namesBackSpec)) namesBackUptoCard

/-- THE SECOND FORM's CARD OF 'taxiranklaw7.NamesFold'. -/
def namesFoldUptoCard : Claim7 := { stood := { row := namesFoldUptoRow, standIns := [], harness := (true, "46bb9080f4d3322ba981903b4d9435c4d2a9e8830942fd46b12e4049dbffbbb9"), looks := false }, kinds := [], alts := [], laidByText := true, laidKinds := [.data, .data, .pinned], laidTests := true, laidLooks := .later }
def NamesFoldUptoCardSaid : Prop := Claim7.holds Tryd.pinned (.plain (OpenSpec.upto namesFoldSpec)) namesFoldUptoCard

/-- THE SECOND FORM's CARD OF 'taxiranklaw7.NamesParts'. -/
def namesPartsUptoCard : Claim7 := { stood := { row := namesPartsUptoRow, standIns := [], harness := (true, "46bb9080f4d3322ba981903b4d9435c4d2a9e8830942fd46b12e4049dbffbbb9"), looks := false }, kinds := [], alts := [], laidByText := true, laidKinds := [.data, .data, .pinned], laidTests := true, laidLooks := .later }
def NamesPartsUptoCardSaid : Prop := Claim7.holds Tryd.pinned (.plain (OpenSpec.upto namesPartsSpec)) namesPartsUptoCard

/-- THE SECOND FORM's CARD OF 'taxiranklaw7.NamesTakes'. -/
def namesTakesUptoCard : Claim7 := { stood := { row := namesTakesUptoRow, standIns := [], harness := (true, "46bb9080f4d3322ba981903b4d9435c4d2a9e8830942fd46b12e4049dbffbbb9"), looks := false }, kinds := [], alts := [], laidByText := true, laidKinds := [.data, .data, .pinned], laidTests := true, laidLooks := .later }
def NamesTakesUptoCardSaid : Prop := Claim7.holds Tryd.pinned (.plain (OpenSpec.upto namesTakesSpec)) namesTakesUptoCard

/-- THE SECOND FORM's CARD OF 'taxiranklaw7.NamesLong'. -/
def namesLongUptoCard : Claim7 := { stood := { row := namesLongUptoRow, standIns := [], harness := (true, "46bb9080f4d3322ba981903b4d9435c4d2a9e8830942fd46b12e4049dbffbbb9"), looks := false }, kinds := [], alts := [], laidByText := true, laidKinds := [.data, .data, .pinned], laidTests := true, laidLooks := .later }
def NamesLongUptoCardSaid : Prop := Claim7.holds Tryd.pinned (.plain (OpenSpec.upto namesLongSpec)) namesLongUptoCard
end Rows
end Go.Proofs.YtalnflfafapicaaDoor
