/- Where the first sign that parts statements stands. -/
import Derived.Test.YtpijolcklmdjbaaDoorClone
namespace Go.Proofs.YtpijolcklmdjbaaDoor
open Go.RowKit Go.Lib Go.WideShapes

def semiAt (l : List Tok) : Nat := (l.takeWhile (fun t => !semi t)).length
theorem semiAt_le (l : List Tok) : semiAt l ≤ l.length := (List.takeWhile_prefix (l := l) (fun t => !semi t)).length_le
theorem semiAt_cons (t : Tok) (l : List Tok) : semiAt (t :: l) = if semi t = true then 0 else 1 + semiAt l := by
  unfold semiAt
  rw [List.takeWhile_cons]
  cases semi t <;> simp <;> omega

end Go.Proofs.YtpijolcklmdjbaaDoor
