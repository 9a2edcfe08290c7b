/-
  DERIVED. GIVEN WITH THE SEED: THE CARDS: each row of YtpijolcklmdjbaaDoorRows.lean that lists a variable, with what it lists TIED to the program's text (the seventh form; the later family's looks); each row that meets fmt, with fmt's text TOLD by the authors' own Lean function (tested against real Go, not proved from fmt's source: count such statements apart). THE CARD IS WHAT COUNTS. Prove the row's statement (the work); the ties are given (YtpijolcklmdjbaaDoorTie.lean); close each card by the builder's one call (the guide's Derived/Test/ToyasCard.lean, 'card_holds'). Laid BY PROGRAM, IN A SANDBOX (cutbox-door.mjs). By AI agents, Wed Nov 11 2026. No macro, syntax, notation, axiom, sorry.
-/
import Derived.Test.YtpijolcklmdjbaaDoorRows
import GoSem.ClaimSeven
namespace Go.Proofs.YtpijolcklmdjbaaDoor
namespace Rows

/-- THE TIED CARD OF 'taxiranklaw13.RenderApart'. -/
def renderApartCard : Claim7 := { stood := { row := renderApartRow, standIns := [], harness := (true, "8a5068dcf0419ce28433c02ee10cea6e3e1195e6a919964663d67c57b089e7ca"), looks := false }, kinds := [], alts := [], laidByText := true, laidKinds := [.data, .data, .pinned], laidTests := true, laidLooks := .later }
def RenderApartCardSaid : Prop := Claim7.holds Tryd.pinned (.plain (OpenSpec.ofChange renderApartSpec)) renderApartCard

/-- THE TIED CARD OF 'taxiranklaw13.RenderQueries'. -/
def renderQueriesCard : Claim7 := { stood := { row := renderQueriesRow, standIns := [], harness := (true, "8a5068dcf0419ce28433c02ee10cea6e3e1195e6a919964663d67c57b089e7ca"), looks := false }, kinds := [], alts := [], laidByText := true, laidKinds := [.data, .data, .pinned], laidTests := true, laidLooks := .later }
def RenderQueriesCardSaid : Prop := Claim7.holds Tryd.pinned (.plain (OpenSpec.ofChange renderQueriesSpec)) renderQueriesCard

/-- THE TIED CARD OF 'taxiranklaw13.RenderNames'. -/
def renderNamesCard : Claim7 := { stood := { row := renderNamesRow, standIns := [], harness := (true, "8a5068dcf0419ce28433c02ee10cea6e3e1195e6a919964663d67c57b089e7ca"), looks := false }, kinds := [], alts := [], laidByText := true, laidKinds := [.data, .data, .pinned], laidTests := true, laidLooks := .later }
def RenderNamesCardSaid : Prop := Claim7.holds Tryd.pinned (.plain (OpenSpec.ofChange renderNamesSpec)) renderNamesCard

/-- THE SECOND FORM's CARD OF 'taxiranklaw13.RenderApart'. -/
def renderApartUptoCard : Claim7 := { stood := { row := renderApartUptoRow, standIns := [], harness := (true, "8a5068dcf0419ce28433c02ee10cea6e3e1195e6a919964663d67c57b089e7ca"), looks := false }, kinds := [], alts := [], laidByText := true, laidKinds := [.data, .data, .pinned], laidTests := true, laidLooks := .later }
def RenderApartUptoCardSaid : Prop := Claim7.holds Tryd.pinned (.plain (OpenSpec.upto renderApartSpec)) renderApartUptoCard

/-- THE SECOND FORM's CARD OF 'taxiranklaw13.RenderQueries'. -/
def renderQueriesUptoCard : Claim7 := { stood := { row := renderQueriesUptoRow, standIns := [], harness := (true, "8a5068dcf0419ce28433c02ee10cea6e3e1195e6a919964663d67c57b089e7ca"), looks := false }, kinds := [], alts := [], laidByText := true, laidKinds := [.data, .data, .pinned], laidTests := true, laidLooks := .later }
def RenderQueriesUptoCardSaid : Prop := Claim7.holds Tryd.pinned (.plain (OpenSpec.upto renderQueriesSpec)) renderQueriesUptoCard

/-- THE SECOND FORM's CARD OF 'taxiranklaw13.RenderNames'. -/
def renderNamesUptoCard : Claim7 := { stood := { row := renderNamesUptoRow, standIns := [], harness := (true, "8a5068dcf0419ce28433c02ee10cea6e3e1195e6a919964663d67c57b089e7ca"), looks := false }, kinds := [], alts := [], laidByText := true, laidKinds := [.data, .data, .pinned], laidTests := true, laidLooks := .later }
def RenderNamesUptoCardSaid : Prop := Claim7.holds Tryd.pinned (.plain (OpenSpec.upto renderNamesSpec)) renderNamesUptoCard
end Rows
end Go.Proofs.YtpijolcklmdjbaaDoor
