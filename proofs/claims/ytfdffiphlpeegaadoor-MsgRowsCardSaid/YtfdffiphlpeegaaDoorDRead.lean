/- The message of a body, read. -/
import Derived.Test.YtfdffiphlpeegaaDoorDReadnone
import Derived.Test.YtfdffiphlpeegaaDoorDReadback
import Derived.Test.YtfdffiphlpeegaaDoorDReadplain
import Derived.Test.YtfdffiphlpeegaaDoorDReadbare
import Derived.Test.YtfdffiphlpeegaaDoorDReadcancel
namespace Go.Proofs.YtfdffiphlpeegaaDoor
open Go.RowKit Go.Lib Go.WideShapes

theorem read_any (w : World) (back : Bool) (c : UInt8) (S : Bs) (hl : S.length ≤ 800000) :
    Calls Tryd.prog 16 #[.bool back, .agg #[.int .u8 (c.toNat : Nat), .string ⟨S.toArray⟩]] w (MsgOut w c 2 (readL back c S)) := by
  cases hlay : lay back c with
  | none => exact read_none w back c S hl hlay
  | some l =>
    cases back with
    | true => exact read_back w c S hl l hlay
    | false =>
      by_cases hc : c = 0
      · cases hcan : isCancel S with
        | true => exact read_cancel w c S hl hc hcan
        | false => exact read_bare w c S hl l hlay hc hcan
      · exact read_plain w c S hl l hlay hc
end Go.Proofs.YtfdffiphlpeegaaDoor
