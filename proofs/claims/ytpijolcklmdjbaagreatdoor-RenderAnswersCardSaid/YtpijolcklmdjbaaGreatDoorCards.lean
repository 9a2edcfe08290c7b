/-
  DERIVED. GIVEN WITH THE SEED: THE CARDS: each row of YtpijolcklmdjbaaGreatDoorRows.lean that lists a variable, with what it lists TIED to the program's text (the seventh form; the later family's looks); each row that meets fmt, with fmt's text TOLD by the authors' own Lean function (tested against real Go, not proved from fmt's source: count such statements apart). THE CARD IS WHAT COUNTS. Prove the row's statement (the work); the ties are given (YtpijolcklmdjbaaGreatDoorTie.lean); close each card by the builder's one call (the guide's Derived/Test/ToyasCard.lean, 'card_holds'). Laid BY PROGRAM, IN A SANDBOX (cutbox-door.mjs). By AI agents, Wed Nov 11 2026. No macro, syntax, notation, axiom, sorry.
-/
import Derived.Test.YtpijolcklmdjbaaGreatDoorRows
import GoSem.ClaimSeven
namespace Go.Proofs.YtpijolcklmdjbaaGreatDoor
namespace Rows

/-- THE TIED CARD OF 'taxiranklaw13.RenderBack'. -/
def renderBackCard : Claim7 := { stood := { row := renderBackRow, standIns := [], harness := (true, "354fa526b4c6595e678f002d8ca293aeef3deb1783e6e7c9d2606ce21d653c84"), looks := false }, kinds := [], alts := [], laidByText := true, laidKinds := [.data, .data, .data, .pinned], laidTests := true, laidLooks := .later }
def RenderBackCardSaid : Prop := Claim7.holds Tryz.pinned (.plain (OpenSpec.ofChange renderBackSpec)) renderBackCard

/-- THE TIED CARD OF 'taxiranklaw13.RenderAnswers'. -/
def renderAnswersCard : Claim7 := { stood := { row := renderAnswersRow, standIns := [], harness := (true, "354fa526b4c6595e678f002d8ca293aeef3deb1783e6e7c9d2606ce21d653c84"), looks := false }, kinds := [], alts := [], laidByText := true, laidKinds := [.data, .data, .data, .data, .data, .pinned], laidTests := true, laidLooks := .later }
def RenderAnswersCardSaid : Prop := Claim7.holds Tryz.pinned (.plain (OpenSpec.ofChange renderAnswersSpec)) renderAnswersCard

/-- THE TIED CARD OF 'taxiranklaw13.RenderFaults'. -/
def renderFaultsCard : Claim7 := { stood := { row := renderFaultsRow, standIns := [], harness := (true, "354fa526b4c6595e678f002d8ca293aeef3deb1783e6e7c9d2606ce21d653c84"), looks := false }, kinds := [], alts := [], laidByText := true, laidKinds := [.data, .data, .pinned], laidTests := true, laidLooks := .later }
def RenderFaultsCardSaid : Prop := Claim7.holds Tryz.pinned (.plain (OpenSpec.ofChange renderFaultsSpec)) renderFaultsCard

/-- THE SECOND FORM's CARD OF 'taxiranklaw13.RenderBack'. -/
def renderBackUptoCard : Claim7 := { stood := { row := renderBackUptoRow, standIns := [], harness := (true, "354fa526b4c6595e678f002d8ca293aeef3deb1783e6e7c9d2606ce21d653c84"), looks := false }, kinds := [], alts := [], laidByText := true, laidKinds := [.data, .data, .data, .pinned], laidTests := true, laidLooks := .later }
def RenderBackUptoCardSaid : Prop := Claim7.holds Tryz.pinned (.plain (OpenSpec.upto renderBackSpec)) renderBackUptoCard

/-- THE SECOND FORM's CARD OF 'taxiranklaw13.RenderAnswers'. -/
def renderAnswersUptoCard : Claim7 := { stood := { row := renderAnswersUptoRow, standIns := [], harness := (true, "354fa526b4c6595e678f002d8ca293aeef3deb1783e6e7c9d2606ce21d653c84"), looks := false }, kinds := [], alts := [], laidByText := true, laidKinds := [.data, .data, .data, .data, .data, .pinned], laidTests := true, laidLooks := .later }
def RenderAnswersUptoCardSaid : Prop := Claim7.holds Tryz.pinned (.plain (OpenSpec.upto renderAnswersSpec)) renderAnswersUptoCard

/-- THE SECOND FORM's CARD OF 'taxiranklaw13.RenderFaults'. -/
def renderFaultsUptoCard : Claim7 := { stood := { row := renderFaultsUptoRow, standIns := [], harness := (true, "354fa526b4c6595e678f002d8ca293aeef3deb1783e6e7c9d2606ce21d653c84"), looks := false }, kinds := [], alts := [], laidByText := true, laidKinds := [.data, .data, .pinned], laidTests := true, laidLooks := .later }
def RenderFaultsUptoCardSaid : Prop := Claim7.holds Tryz.pinned (.plain (OpenSpec.upto renderFaultsSpec)) renderFaultsUptoCard
end Rows
end Go.Proofs.YtpijolcklmdjbaaGreatDoor
