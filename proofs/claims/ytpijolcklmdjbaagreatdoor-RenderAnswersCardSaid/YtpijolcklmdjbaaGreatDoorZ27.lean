/- Contracts and mathematics: PTransM, PValuesM. -/
import Derived.Test.YtpijolcklmdjbaaGreatDoorZ26
namespace Go.Proofs.YtpijolcklmdjbaaGreatDoor
open Go.RowKit Go.Lib Go.WideShapes

end Go.Proofs.YtpijolcklmdjbaaGreatDoor

namespace Go.Proofs.YtpijolcklmdjbaaGreatDoor
open Go.RowKit Go.Lib Go.WideShapes

end Go.Proofs.YtpijolcklmdjbaaGreatDoor
