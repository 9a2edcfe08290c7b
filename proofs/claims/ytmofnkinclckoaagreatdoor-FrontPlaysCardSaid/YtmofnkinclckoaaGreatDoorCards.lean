/-
  DERIVED. GIVEN WITH THE SEED: THE CARDS: each row of YtmofnkinclckoaaGreatDoorRows.lean that lists a variable, with what it lists TIED to the program's text (the seventh form; the later family's looks); each row that meets fmt, with fmt's text TOLD by the authors' own Lean function (tested against real Go, not proved from fmt's source: count such statements apart). THE CARD IS WHAT COUNTS. Prove the row's statement (the work); the ties are given (YtmofnkinclckoaaGreatDoorTie.lean); close each card by the builder's one call (the guide's Derived/Test/ToyasCard.lean, 'card_holds'). Laid BY PROGRAM, IN A SANDBOX (cutbox-door.mjs). By AI agents, Wed Nov 11 2026. No macro, syntax, notation, axiom, sorry.
-/
import Derived.Test.YtmofnkinclckoaaGreatDoorRows
import GoSem.ClaimSeven
namespace Go.Proofs.YtmofnkinclckoaaGreatDoor
namespace Rows

/-- THE TIED CARD OF 'taxiranklaw18.FrontPlays'. -/
def frontPlaysCard : Claim7 := { stood := { row := frontPlaysRow, standIns := [], harness := (true, "1cbecc6fed64d1b2441de552b97deba2333be9e306082e90e09799434f05ad08"), looks := false }, kinds := [], alts := [], laidByText := true, laidKinds := [.data, .pinned], laidTests := true, laidLooks := .later }
def FrontPlaysCardSaid : Prop := Claim7.holds Tryz.pinned (.plain (OpenSpec.ofChange frontPlaysSpec)) frontPlaysCard

/-- THE SECOND FORM's CARD OF 'taxiranklaw18.FrontPlays'. -/
def frontPlaysUptoCard : Claim7 := { stood := { row := frontPlaysUptoRow, standIns := [], harness := (true, "1cbecc6fed64d1b2441de552b97deba2333be9e306082e90e09799434f05ad08"), looks := false }, kinds := [], alts := [], laidByText := true, laidKinds := [.data, .pinned], laidTests := true, laidLooks := .later }
def FrontPlaysUptoCardSaid : Prop := Claim7.holds Tryz.pinned (.plain (OpenSpec.upto frontPlaysSpec)) frontPlaysUptoCard
end Rows
end Go.Proofs.YtmofnkinclckoaaGreatDoor
