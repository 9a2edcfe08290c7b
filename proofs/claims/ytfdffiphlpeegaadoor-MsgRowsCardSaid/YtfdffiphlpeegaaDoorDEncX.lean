/- What Encode answers, in parts. -/
import Derived.Test.YtfdffiphlpeegaaDoorMSame
import Derived.Test.YtfdffiphlpeegaaDoorMRQ
import Derived.Deep.Cut
namespace Go.Proofs.YtfdffiphlpeegaaDoor
open Go.RowKit Go.Lib Go.WideShapes

def encX (c : UInt8) (r : Option Bs) : Int := if encE r = 0 then (c.toNat : Nat) else 0
def encB (r : Option Bs) : ByteArray := if encE r = 0 then ⟨(r.getD []).toArray⟩ else { data := #[] }
theorem encV_form (c : UInt8) (r : Option Bs) : encV c r = .tuple #[.agg #[.int .u8 (encX c r), .string (encB r)], .int .i64 (encE r)] := by
  unfold encV encX encB
  by_cases h : encE r = 0
  · rw [if_pos h, if_pos h, if_pos h]
  · rw [if_neg h, if_neg h, if_neg h]
theorem encE_zero {r : Option Bs} (h : encE r = 0) : ∃ B, r = some B ∧ B.length ≤ 10000 := by
  cases r with
  | none => cases h
  | some B =>
    refine ⟨B, rfl, ?_⟩
    by_cases hb : 10000 < B.length
    · have h3 : encE (some B) = 3 := if_pos hb
      rw [h3] at h; cases h
    · omega
end Go.Proofs.YtfdffiphlpeegaaDoor
