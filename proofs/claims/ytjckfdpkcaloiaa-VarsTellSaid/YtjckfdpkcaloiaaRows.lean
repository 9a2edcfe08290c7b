/-
  No cell of these rows narrows 'for every input' (looked for: loops, veiled, ifaces, maps, wideKeys, modest, calm, conditions, laid).
  DERIVED. THE GIVEN ROWS OF THIS SEAT. 4 by the template 'for every input the law returns true; each argument reads behind the call as it read before'; 0 by the template 'total and deterministic' (their statements: YtjckfdpkcaloiaaTotals.lean).
  GIVEN WITH THE SEED: the statements are not yours to turn. If you find one false, say at which input.
  Laid BY PROGRAM, IN A SANDBOX (cutbox-rows.mjs): the forced cells as the released guide's own fill.sh prints them over the translation c575a1b6c1e58eb7… (all of the seat's roots in one cut). By AI agents, Wed Nov 11 2026. No macro, syntax, notation, axiom, sorry.
-/
import Derived.Test.YtjckfdpkcaloiaaChecked
import GoSem.Claim
import GoSem.ClaimJoined
import GoSem.ClaimMapViews
import Derived.JoinedTies
import Derived.KernelRfl
namespace Go.Proofs.Ytjckfdpkcaloiaa
/- THE CELL 'sum', in the pinned program and in every row, IS THE sha256 OF THE DUMP (.gsa) THAT YtjckfdpkcaloiaaProg.lean LOADS. Nothing in Lean hashes anything: it is a label: what it is worth is what the hold of that sum in a sandbox is worth. -/
noncomputable def Try.pinned : Pinned := { name := "ytjckfdpkcaloiaa", sum := "c575a1b6c1e58eb74b5c839df000dd6acaffda7d993e951b798fc33cb88b95a1", checked := Try.checked }
namespace Rows
def none {H : Type} : Left H := { results := [], args := [] }

/-- 'taxiranklaw10.VarsTell': WHATEVER THE INPUT: true; the input reads as it did. -/
def varsTellSpec : ChangeSpec := { name := "varsTell", fn := fun _ => fun
  | [d1, d2, d3, d4] => { results := [.lit (.bool true)], args := [d1, d2, d3, d4] }
  | _ => none }
def varsTellRow : OpenClaim := { program := "ytjckfdpkcaloiaa", sum := "c575a1b6c1e58eb74b5c839df000dd6acaffda7d993e951b798fc33cb88b95a1", func := "taxirank/taxiranklaw10.VarsTell", spec := "varsTell", inPlace := ["slices.overlaps[taxirank/catalog.Pair]"], unfollowed := true, recurses := true, apart := false }
def VarsTellSaid : Prop := varsTellRow.holds Try.pinned (OpenSpec.ofChange varsTellSpec)

/-- ITS FALSE NEIGHBOUR: 'it returns false'. Refute it at one input. -/
def varsTellWrong : ChangeSpec := { name := "varsTell", fn := fun _ => fun
  | [d1, d2, d3, d4] => { results := [.lit (.bool false)], args := [d1, d2, d3, d4] }
  | _ => none }
def VarsTellWrongFalsely : Prop := varsTellRow.holds Try.pinned (OpenSpec.ofChange varsTellWrong)

/-- 'taxiranklaw10.VarsBack': WHATEVER THE INPUT: true; the input reads as it did. -/
def varsBackSpec : ChangeSpec := { name := "varsBack", fn := fun _ => fun
  | [d1, d2, d3, d4, d5] => { results := [.lit (.bool true)], args := [d1, d2, d3, d4, d5] }
  | _ => none }
def varsBackRow : OpenClaim := { program := "ytjckfdpkcaloiaa", sum := "c575a1b6c1e58eb74b5c839df000dd6acaffda7d993e951b798fc33cb88b95a1", func := "taxirank/taxiranklaw10.VarsBack", spec := "varsBack", inPlace := ["slices.overlaps[taxirank/catalog.Pair]"], unfollowed := true, recurses := true, apart := false }
def VarsBackSaid : Prop := varsBackRow.holds Try.pinned (OpenSpec.ofChange varsBackSpec)

/-- ITS FALSE NEIGHBOUR: 'it returns false'. Refute it at one input. -/
def varsBackWrong : ChangeSpec := { name := "varsBack", fn := fun _ => fun
  | [d1, d2, d3, d4, d5] => { results := [.lit (.bool false)], args := [d1, d2, d3, d4, d5] }
  | _ => none }
def VarsBackWrongFalsely : Prop := varsBackRow.holds Try.pinned (OpenSpec.ofChange varsBackWrong)

/-- 'taxiranklaw10.VarsOver': WHATEVER THE INPUT: true; the input reads as it did. -/
def varsOverSpec : ChangeSpec := { name := "varsOver", fn := fun _ => fun
  | [d1, d2, d3] => { results := [.lit (.bool true)], args := [d1, d2, d3] }
  | _ => none }
def varsOverRow : OpenClaim := { program := "ytjckfdpkcaloiaa", sum := "c575a1b6c1e58eb74b5c839df000dd6acaffda7d993e951b798fc33cb88b95a1", func := "taxirank/taxiranklaw10.VarsOver", spec := "varsOver", inPlace := ["slices.overlaps[taxirank/catalog.Pair]"], unfollowed := true, recurses := true, apart := false }
def VarsOverSaid : Prop := varsOverRow.holds Try.pinned (OpenSpec.ofChange varsOverSpec)

/-- ITS FALSE NEIGHBOUR: 'it returns false'. Refute it at one input. -/
def varsOverWrong : ChangeSpec := { name := "varsOver", fn := fun _ => fun
  | [d1, d2, d3] => { results := [.lit (.bool false)], args := [d1, d2, d3] }
  | _ => none }
def VarsOverWrongFalsely : Prop := varsOverRow.holds Try.pinned (OpenSpec.ofChange varsOverWrong)

/-- 'taxiranklaw10.VarsPuts': WHATEVER THE INPUT: true; the input reads as it did. -/
def varsPutsSpec : ChangeSpec := { name := "varsPuts", fn := fun _ => fun
  | [d1, d2, d3, d4, d5] => { results := [.lit (.bool true)], args := [d1, d2, d3, d4, d5] }
  | _ => none }
def varsPutsRow : OpenClaim := { program := "ytjckfdpkcaloiaa", sum := "c575a1b6c1e58eb74b5c839df000dd6acaffda7d993e951b798fc33cb88b95a1", func := "taxirank/taxiranklaw10.VarsPuts", spec := "varsPuts", inPlace := ["slices.overlaps[taxirank/catalog.Pair]"], unfollowed := true, recurses := true, apart := false }
def VarsPutsSaid : Prop := varsPutsRow.holds Try.pinned (OpenSpec.ofChange varsPutsSpec)

/-- ITS FALSE NEIGHBOUR: 'it returns false'. Refute it at one input. -/
def varsPutsWrong : ChangeSpec := { name := "varsPuts", fn := fun _ => fun
  | [d1, d2, d3, d4, d5] => { results := [.lit (.bool false)], args := [d1, d2, d3, d4, d5] }
  | _ => none }
def VarsPutsWrongFalsely : Prop := varsPutsRow.holds Try.pinned (OpenSpec.ofChange varsPutsWrong)

/- THE SECOND FORM. 'bulk': how many values and letters a reading holds, each counted each time it is reached (what is shared counts as often as it is met; a slice's spare places count too). A statement '..UptoSaid' is the law's where the arguments, and the package variables that the reading takes, are together of bulk at most 1048576: NARROWER than '..Said'. Prove '..Said' where nothing that the law and all that it calls make is longer than what came in: it says more and counts as full. Else prove '..UptoSaid'. A law counts once. -/
mutual
def uptoBulk {H : Type} : DataW H → Nat
  | .lit (.string bytes) => bytes.length + 1
  | .lit _ => 1
  | .nil => 1
  | .ptr d => uptoBulk d + 1
  | .slice elems spare => uptoBulkAll elems + uptoBulkAll spare + 1
  | .agg parts => uptoBulkAll parts + 1
  | .iface _ d => uptoBulk d + 1
  | .map entries => uptoBulkEntries entries + 1
  | .held _ => 1
def uptoBulkAll {H : Type} : List (DataW H) → Nat
  | [] => 0
  | d :: r => uptoBulk d + uptoBulkAll r
def uptoBulkEntries {H : Type} : List (Lit × DataW H) → Nat
  | [] => 0
  | x :: r => uptoBulkEntry x + uptoBulkEntries r
def uptoBulkEntry {H : Type} : Lit × DataW H → Nat
  | (.string bytes, d) => bytes.length + uptoBulk d + 1
  | (_, d) => uptoBulk d + 1
 end
def uptoSmall : (H : Type) → List (DataW H) → Bool := fun _ ds => decide (uptoBulkAll ds ≤ 1048576)
def OpenSpec.upto (s : _root_.Go.ChangeSpec) : _root_.Go.OpenSpec := { _root_.Go.OpenSpec.ofChange s with cond := some uptoSmall }

/-- 'taxiranklaw10.VarsTell', WHERE WHAT IT READS IS OF BULK AT MOST 1048576: true; the input reads as it did. -/
def varsTellUptoRow : OpenClaim := { program := "ytjckfdpkcaloiaa", sum := "c575a1b6c1e58eb74b5c839df000dd6acaffda7d993e951b798fc33cb88b95a1", func := "taxirank/taxiranklaw10.VarsTell", spec := "varsTell", inPlace := ["slices.overlaps[taxirank/catalog.Pair]"], unfollowed := true, recurses := true, apart := false, narrowed := true }
def VarsTellUptoSaid : Prop := varsTellUptoRow.holds Try.pinned (OpenSpec.upto varsTellSpec)

/-- 'taxiranklaw10.VarsBack', WHERE WHAT IT READS IS OF BULK AT MOST 1048576: true; the input reads as it did. -/
def varsBackUptoRow : OpenClaim := { program := "ytjckfdpkcaloiaa", sum := "c575a1b6c1e58eb74b5c839df000dd6acaffda7d993e951b798fc33cb88b95a1", func := "taxirank/taxiranklaw10.VarsBack", spec := "varsBack", inPlace := ["slices.overlaps[taxirank/catalog.Pair]"], unfollowed := true, recurses := true, apart := false, narrowed := true }
def VarsBackUptoSaid : Prop := varsBackUptoRow.holds Try.pinned (OpenSpec.upto varsBackSpec)

/-- 'taxiranklaw10.VarsOver', WHERE WHAT IT READS IS OF BULK AT MOST 1048576: true; the input reads as it did. -/
def varsOverUptoRow : OpenClaim := { program := "ytjckfdpkcaloiaa", sum := "c575a1b6c1e58eb74b5c839df000dd6acaffda7d993e951b798fc33cb88b95a1", func := "taxirank/taxiranklaw10.VarsOver", spec := "varsOver", inPlace := ["slices.overlaps[taxirank/catalog.Pair]"], unfollowed := true, recurses := true, apart := false, narrowed := true }
def VarsOverUptoSaid : Prop := varsOverUptoRow.holds Try.pinned (OpenSpec.upto varsOverSpec)

/-- 'taxiranklaw10.VarsPuts', WHERE WHAT IT READS IS OF BULK AT MOST 1048576: true; the input reads as it did. -/
def varsPutsUptoRow : OpenClaim := { program := "ytjckfdpkcaloiaa", sum := "c575a1b6c1e58eb74b5c839df000dd6acaffda7d993e951b798fc33cb88b95a1", func := "taxirank/taxiranklaw10.VarsPuts", spec := "varsPuts", inPlace := ["slices.overlaps[taxirank/catalog.Pair]"], unfollowed := true, recurses := true, apart := false, narrowed := true }
def VarsPutsUptoSaid : Prop := varsPutsUptoRow.holds Try.pinned (OpenSpec.upto varsPutsSpec)

end Rows
end Go.Proofs.Ytjckfdpkcaloiaa
