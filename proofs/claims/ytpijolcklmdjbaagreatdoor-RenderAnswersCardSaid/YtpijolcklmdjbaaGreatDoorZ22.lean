/- Contracts and mathematics: NumM, JoinM, Kts. -/
import Derived.Test.YtpijolcklmdjbaaGreatDoorZ19
import Derived.Test.YtpijolcklmdjbaaGreatDoorZ9
namespace Go.Proofs.YtpijolcklmdjbaaGreatDoor

end Go.Proofs.YtpijolcklmdjbaaGreatDoor

namespace Go.Proofs.YtpijolcklmdjbaaGreatDoor

def moved (d : Nat) (t : Tok) : Tok := ⟨t.kind, t.text, t.lo + d, t.hi + d⟩

end Go.Proofs.YtpijolcklmdjbaaGreatDoor

namespace Go.Proofs.YtpijolcklmdjbaaGreatDoor

def kt (q : Tok) : UInt8 × Bs := (q.kind, q.text)
/-- The kinds and texts of all tokens. -/
def kts (l : Bs) : Option (List (UInt8 × Bs)) := (toks (l.length + 1) l.length l).map fun L => L.map kt

end Go.Proofs.YtpijolcklmdjbaaGreatDoor
