/- The statements of a row of tokens, as an iterator. -/
import Derived.Test.YtckimeikiakfcaaDoorRuns
namespace Go.Proofs.YtckimeikiakfcaaDoor
open Go.RowKit Go.Lib Go.WideShapes

theorem statements_any (p : Option Addr) (m c : Nat) (w : World) :
    Calls Tryd.prog 21 #[.slice p m c] w fun e w' => e = .returned (.func (.func 30) #[] #[.pointer (some ⟨w.heap.size, 0, none⟩)]) ∧ w' = w.alloc (.cells #[.slice p m c] 23) := by
  go_enter Tryd.func21, Tryd.ntmps21
  go_wp2_with fail
  go_ret
  exact ⟨rfl, rfl⟩

/-- Words appear in the tokens of a text: what Split tells, as mathematics. -/
def parted (l : Bs) : Option (List (List Tok)) := if 2000 < l.length then none else (tokens l).map splits
end Go.Proofs.YtckimeikiakfcaaDoor
