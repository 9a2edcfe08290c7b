/- Contracts and mathematics: OneM, PParseM, POthersM. -/
import Derived.Test.YtpijolcklmdjbaaGreatDoorZ25
import Derived.Test.YtpijolcklmdjbaaGreatDoorZ21
import Derived.Test.YtpijolcklmdjbaaGreatDoorZ23
namespace Go.Proofs.YtpijolcklmdjbaaGreatDoor

end Go.Proofs.YtpijolcklmdjbaaGreatDoor

namespace Go.Proofs.YtpijolcklmdjbaaGreatDoor
open Go.RowKit Go.Lib Go.WideShapes

/-- A token without its places. -/
def zt (t : Tok) : Tok := ⟨t.kind, t.text, 0, 0⟩
def mk (x : UInt8 × Bs) : Tok := ⟨x.1, x.2, 0, 0⟩
end Go.Proofs.YtpijolcklmdjbaaGreatDoor

namespace Go.Proofs.YtpijolcklmdjbaaGreatDoor
open Go.RowKit Go.Lib Go.WideShapes

end Go.Proofs.YtpijolcklmdjbaaGreatDoor
