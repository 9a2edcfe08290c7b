/- Contracts and mathematics: PCommandA, PCommandB. -/
import Derived.Test.YtpijolcklmdjbaaGreatDoorZ42
import Derived.Test.YtpijolcklmdjbaaGreatDoorZ45
namespace Go.Proofs.YtpijolcklmdjbaaGreatDoor
open Go.RowKit Go.Lib Go.WideShapes

end Go.Proofs.YtpijolcklmdjbaaGreatDoor

namespace Go.Proofs.YtpijolcklmdjbaaGreatDoor
open Go.RowKit Go.Lib Go.WideShapes

end Go.Proofs.YtpijolcklmdjbaaGreatDoor
