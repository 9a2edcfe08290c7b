/- A message, a frame, as the document's own. -/
import Derived.Test.YtfdffiphlpeegaaDoorMShown
namespace Go.Proofs.YtfdffiphlpeegaaDoor
open Go.RowKit Go.Lib Go.WideShapes

set_option maxHeartbeats 4000000 in
theorem as_any (w : World) (k : Int) (ta na : Option Addr) (tn tc nn nc : Nat) :
    Calls Tryd.prog 13 #[.agg #[.int .u8 k, .slice ta tn tc, .slice na nn nc]] w fun e w' => e = .returned (.agg #[.int .u8 k, .slice ta tn tc, .slice na nn nc]) ∧ Below w.heap.size w w' := by
  go_enter Tryd.func13, Tryd.ntmps13
  go_wp2_with fail
  simp [bodyPost, results, Tryd.results13, go_sem]
  first | exact ((Below.refl _ _).alloc (Nat.le_refl _) _).drew | exact ((Below.refl _ _).alloc (Nat.le_refl _) _).alloc (by simp) _ | exact ((((Below.refl _ _).alloc (Nat.le_refl _) _).alloc (by simp) _).setCell (by simp) _) | exact (((((Below.refl _ _).alloc (Nat.le_refl _) _).alloc (by simp) _).setCell (by simp) _).setCell (by simp) _) | exact ((((((Below.refl _ _).alloc (Nat.le_refl _) _).alloc (by simp) _).setCell (by simp) _).setCell (by simp) _).setCell (by simp) _)

set_option maxHeartbeats 4000000 in
theorem asframe_any (w : World) (k : Int) (s : ByteArray) :
    Calls Tryd.prog 11 #[.agg #[.int .u8 k, .string s]] w fun e w' => e = .returned (.agg #[.int .u8 k, .string s]) ∧ Below w.heap.size w w' := by
  go_enter Tryd.func11, Tryd.ntmps11
  go_wp2_with fail
  simp [bodyPost, results, Tryd.results11, go_sem]
  first | exact ((Below.refl _ _).alloc (Nat.le_refl _) _).drew | exact ((Below.refl _ _).alloc (Nat.le_refl _) _).alloc (by simp) _ | exact ((((Below.refl _ _).alloc (Nat.le_refl _) _).alloc (by simp) _).setCell (by simp) _) | exact (((((Below.refl _ _).alloc (Nat.le_refl _) _).alloc (by simp) _).setCell (by simp) _).setCell (by simp) _) | exact ((((((Below.refl _ _).alloc (Nat.le_refl _) _).alloc (by simp) _).setCell (by simp) _).setCell (by simp) _).setCell (by simp) _)
end Go.Proofs.YtfdffiphlpeegaaDoor
