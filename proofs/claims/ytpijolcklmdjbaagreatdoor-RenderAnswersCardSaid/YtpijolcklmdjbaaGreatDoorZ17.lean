/- Contracts and mathematics: Tag. -/
import Derived.Test.YtpijolcklmdjbaaGreatDoorZ14
import Derived.Test.YtpijolcklmdjbaaGreatDoorZ16
namespace Go.Proofs.YtpijolcklmdjbaaGreatDoor
open Go.RowKit Go.Lib Go.WideShapes

def wd (c : UInt8) : Bool := bw c || dg c

end Go.Proofs.YtpijolcklmdjbaaGreatDoor
