/-
  DERIVED. GIVEN WITH THE SEED: THE CARDS: each row of YtmofnkinclckoaaDoorRows.lean that lists a variable, with what it lists TIED to the program's text (the seventh form; the later family's looks); each row that meets fmt, with fmt's text TOLD by the authors' own Lean function (tested against real Go, not proved from fmt's source: count such statements apart). THE CARD IS WHAT COUNTS. Prove the row's statement (the work); the ties are given (YtmofnkinclckoaaDoorTie.lean); close each card by the builder's one call (the guide's Derived/Test/ToyasCard.lean, 'card_holds'). Laid BY PROGRAM, IN A SANDBOX (cutbox-door.mjs). By AI agents, Wed Nov 11 2026. No macro, syntax, notation, axiom, sorry.
-/
import Derived.Test.YtmofnkinclckoaaDoorRows
import GoSem.ClaimSeven
namespace Go.Proofs.YtmofnkinclckoaaDoor
namespace Rows

/-- THE TIED CARD OF 'taxiranklaw18.FrontCuts'. -/
def frontCutsCard : Claim7 := { stood := { row := frontCutsRow, standIns := [], harness := (true, "b1233d6bb33ec313f992ef79bdcf6105c27a462ca682f9510ca0e6a7afa1f9fe"), looks := false }, kinds := [], alts := [], laidByText := true, laidKinds := [.data, .pinned], laidTests := true, laidLooks := .later }
def FrontCutsCardSaid : Prop := Claim7.holds Tryd.pinned (.plain (OpenSpec.ofChange frontCutsSpec)) frontCutsCard

/-- THE TIED CARD OF 'taxiranklaw18.FrontEnds'. -/
def frontEndsCard : Claim7 := { stood := { row := frontEndsRow, standIns := [], harness := (true, "b1233d6bb33ec313f992ef79bdcf6105c27a462ca682f9510ca0e6a7afa1f9fe"), looks := false }, kinds := [], alts := [], laidByText := true, laidKinds := [.data, .pinned], laidTests := true, laidLooks := .later }
def FrontEndsCardSaid : Prop := Claim7.holds Tryd.pinned (.plain (OpenSpec.ofChange frontEndsSpec)) frontEndsCard

/-- THE TIED CARD OF 'taxiranklaw18.FrontNames'. -/
def frontNamesCard : Claim7 := { stood := { row := frontNamesRow, standIns := [], harness := (true, "b1233d6bb33ec313f992ef79bdcf6105c27a462ca682f9510ca0e6a7afa1f9fe"), looks := false }, kinds := [], alts := [], laidByText := true, laidKinds := [.data, .pinned], laidTests := true, laidLooks := .later }
def FrontNamesCardSaid : Prop := Claim7.holds Tryd.pinned (.plain (OpenSpec.ofChange frontNamesSpec)) frontNamesCard

/-- THE TIED CARD OF 'taxiranklaw18.FrontOnce'. -/
def frontOnceCard : Claim7 := { stood := { row := frontOnceRow, standIns := [], harness := (true, "b1233d6bb33ec313f992ef79bdcf6105c27a462ca682f9510ca0e6a7afa1f9fe"), looks := false }, kinds := [], alts := [], laidByText := true, laidKinds := [.data, .pinned], laidTests := true, laidLooks := .later }
def FrontOnceCardSaid : Prop := Claim7.holds Tryd.pinned (.plain (OpenSpec.ofChange frontOnceSpec)) frontOnceCard

/-- THE SECOND FORM's CARD OF 'taxiranklaw18.FrontCuts'. -/
def frontCutsUptoCard : Claim7 := { stood := { row := frontCutsUptoRow, standIns := [], harness := (true, "b1233d6bb33ec313f992ef79bdcf6105c27a462ca682f9510ca0e6a7afa1f9fe"), looks := false }, kinds := [], alts := [], laidByText := true, laidKinds := [.data, .pinned], laidTests := true, laidLooks := .later }
def FrontCutsUptoCardSaid : Prop := Claim7.holds Tryd.pinned (.plain (OpenSpec.upto frontCutsSpec)) frontCutsUptoCard

/-- THE SECOND FORM's CARD OF 'taxiranklaw18.FrontEnds'. -/
def frontEndsUptoCard : Claim7 := { stood := { row := frontEndsUptoRow, standIns := [], harness := (true, "b1233d6bb33ec313f992ef79bdcf6105c27a462ca682f9510ca0e6a7afa1f9fe"), looks := false }, kinds := [], alts := [], laidByText := true, laidKinds := [.data, .pinned], laidTests := true, laidLooks := .later }
def FrontEndsUptoCardSaid : Prop := Claim7.holds Tryd.pinned (.plain (OpenSpec.upto frontEndsSpec)) frontEndsUptoCard

/-- THE SECOND FORM's CARD OF 'taxiranklaw18.FrontNames'. -/
def frontNamesUptoCard : Claim7 := { stood := { row := frontNamesUptoRow, standIns := [], harness := (true, "b1233d6bb33ec313f992ef79bdcf6105c27a462ca682f9510ca0e6a7afa1f9fe"), looks := false }, kinds := [], alts := [], laidByText := true, laidKinds := [.data, .pinned], laidTests := true, laidLooks := .later }
def FrontNamesUptoCardSaid : Prop := Claim7.holds Tryd.pinned (.plain (OpenSpec.upto frontNamesSpec)) frontNamesUptoCard

/-- THE SECOND FORM's CARD OF 'taxiranklaw18.FrontOnce'. -/
def frontOnceUptoCard : Claim7 := { stood := { row := frontOnceUptoRow, standIns := [], harness := (true, "b1233d6bb33ec313f992ef79bdcf6105c27a462ca682f9510ca0e6a7afa1f9fe"), looks := false }, kinds := [], alts := [], laidByText := true, laidKinds := [.data, .pinned], laidTests := true, laidLooks := .later }
def FrontOnceUptoCardSaid : Prop := Claim7.holds Tryd.pinned (.plain (OpenSpec.upto frontOnceSpec)) frontOnceUptoCard
end Rows
end Go.Proofs.YtmofnkinclckoaaDoor
