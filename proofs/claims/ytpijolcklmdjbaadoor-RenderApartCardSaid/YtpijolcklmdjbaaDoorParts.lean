/- What parts statements; where it stands first. -/
import Derived.Test.YtpijolcklmdjbaaDoorTold
import Derived.Test.YtpijolcklmdjbaaDoorJoinM
import Derived.BigQuiet
import Derived.Deep.QuietTactic
namespace Go.Proofs.YtpijolcklmdjbaaDoor
open Go.RowKit Go.Lib Go.WideShapes

def semi (t : Tok) : Bool := t.kind == 111 && t.text == [59]
def tokV (q : Tok) : Value := .agg #[.int .u8 (q.kind.toNat : Nat), .string ⟨q.text.toArray⟩, .int .i64 q.lo, .int .i64 q.hi]

theorem text_eq (t : Bs) (l : Bs) : (⟨t.toArray⟩ : ByteArray) = ⟨l.toArray⟩ ↔ t = l := by
  constructor
  · intro h; have := congrArg (fun x => x.data.toList) h; simpa using this
  · rintro rfl; rfl

end Go.Proofs.YtpijolcklmdjbaaDoor
