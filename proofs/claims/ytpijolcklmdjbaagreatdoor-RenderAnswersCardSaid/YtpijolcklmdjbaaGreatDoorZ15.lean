/- Contracts and mathematics: Number. -/
import Derived.Test.YtpijolcklmdjbaaGreatDoorZ14
import Derived.Deep.RegionWith
namespace Go.Proofs.YtpijolcklmdjbaaGreatDoor
open Go.RowKit Go.Lib Go.WideShapes

/-- How many bytes the e of a power and its sign are. -/
def ex (s : ByteArray) (j : Nat) : Nat :=
  if pb s j = 101 ∨ pb s j = 69 then (if pb s (j + 1) = 43 ∨ pb s (j + 1) = 45 then (if dgN (pb s (j + 2)) then 2 else 0) else (if dgN (pb s (j + 1)) then 1 else 0)) else 0

end Go.Proofs.YtpijolcklmdjbaaGreatDoor
